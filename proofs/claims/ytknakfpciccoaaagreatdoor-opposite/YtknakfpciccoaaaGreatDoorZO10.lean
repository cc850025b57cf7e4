import Derived.Test.YtknakfpciccoaaaGreatDoorZO9
import Derived.Shelf.Strconv.Clone
import Derived.Test.YtknakfpciccoaaaGreatDoorProg
import Derived.Test.YtknakfpciccoaaaGreatDoorZO1
import Derived.Test.YtknakfpciccoaaaGreatDoorZO7
import Derived.Test.YtknakfpciccoaaaGreatDoorZO8
import Derived.Laws.IdiomStrings
import Derived.Deep.RegionHeld3
import Derived.Deep.AppendLies
import Derived.Deep.LoopGhost
/- The walks of the program's parser: texts, numbers, words. -/
namespace Go.Proofs.YtknakfpciccoaaaGreatDoor
open Go.RowKit

theorem rowF_move {w w' : World} {lo : Nat} {e : TypeId} {size n : Nat} {v : Value} {xs : List Value} (h : w.ownsRowF lo e size v n xs) (hb : ∀ b, lo ≤ b → b < w.heap.size → w'.heap[b]? = w.heap[b]?) : w'.ownsRowF lo e size v n xs := by
  refine ⟨h.1, ?_⟩
  rcases h.2 with hn | ⟨g, cap, cur, fz, rfl, hb0, hg, rest⟩
  · exact .inl hn
  · exact .inr ⟨g, cap, cur, fz, rfl, hb0, (hb g hb0 (Array.getElem?_eq_some_iff.1 hg).1).trans hg, rest⟩
theorem builderAt_but {T e : TypeId} {B b c : Nat} {p : Value} {bs : List Value} {w w' : World} (h : Lib.BuilderAtF T e B b p bs w) (hB : But c w w') (hc : c < B) : Lib.BuilderAtF T e B b p bs w' := by
  have hlt := h.lt
  obtain ⟨h0, v, hb, hown, hne⟩ := h
  exact ⟨h0, v, (hB.block b hlt (by omega)).trans hb, rowF_move hown (fun k h1 h2 => hB.block k h2 (by omega)), hne⟩
theorem builder_but {T e : TypeId} {B b c : Nat} {bs : List Value} {w w' : World} (h : Lib.IsBuilderF T e B b bs w) (hB : But c w w') (hc : c < B) : Lib.IsBuilderF T e B b bs w' :=
  h.elim (fun x => .inl (builderAt_but x hB hc)) (fun x => .inr (builderAt_but x hB hc))
theorem But.over {c : Nat} {w1 wr w' : World} (h : But c w1 wr) (hb : Below w1.heap.size wr w') : But c w1 w' :=
  ⟨hb.os.trans h.os, hb.tape.trans h.tape, hb.output.trans h.output, Nat.le_trans h.size hb.size, fun i hi hc => (hb.block i hi).trans (h.block i hi hc)⟩
theorem writeRune_any (B b : Nat) (acc : List UInt8) (r : Nat) (w : World) (hr : r ≤ 1114111) (h : Lib.IsBuilderF 65 5 B b (Lib.byteCells acc) w) (hl : acc.length ≤ 1000000) (hB : B ≤ w.heap.size) :
    Calls Tryz.prog 222 #[.pointer (some ⟨b, 0, none⟩), .int .i32 (r : Int)] w fun e w' => e = .returned (.tuple #[.int .i64 (Lib.runeCells (r : Int)).length, .nilIface]) ∧ Lib.IsBuilderF 65 5 B b (Lib.byteCells (acc ++ Lib.encodeRune (r : Int))) w' ∧ Below B w w' := by
  refine (Any.Builder_WriteRune_k Tryz.laysWriteRune Tryz.extraWriteRune B b (Lib.byteCells acc) (r : Int) (by omega) (by omega) w h (by rw [Lib.byteCells_length]; omega) hB).mono ?_
  rintro e w' ⟨rfl, h1, b1, _⟩
  refine ⟨rfl, Or.inr ?_, b1⟩
  rw [Lib.byteCells_append, Lib.byteCells_encodeRune]
  exact h1
theorem string_any (B b : Nat) (acc : List UInt8) (w : World) (h : Lib.IsBuilderF 65 5 B b (Lib.byteCells acc) w) (hB : B ≤ w.heap.size) :
    Calls Tryz.prog 42 #[.pointer (some ⟨b, 0, none⟩)] w fun e w' => e = .returned (.string (baL acc)) ∧ Below B w w' := by
  refine (Any.Builder_String_any_k Tryz.laysString Tryz.extraString B b acc w h hB).mono ?_
  rintro e w' ⟨rfl, _, b1, _⟩
  exact ⟨rfl, b1⟩
def StrPost (c : Nat) (s : ByteArray) (i : Nat) (w : World) (e : Ending) (w' : World) : Prop :=
  But c w w' ∧ ((∃ x j, txtS s i = some (x, j) ∧ e = .returned (.string x) ∧ PL c s j w') ∨ (txtS s i = none ∧ e = refusedT 2))
theorem txtS_of {s : ByteArray} {i : Nat} (h : cB s i = 34) : txtS s i = (txtN s (s.size + 1) (i + 1)).map fun p => (baL p.1, p.2) := by unfold txtS; rw [if_pos h]
theorem txtS_not {s : ByteArray} {i : Nat} (h : cB s i ≠ 34) : txtS s i = none := by unfold txtS; rw [if_neg h]
set_option maxHeartbeats 2000000 in
set_option maxRecDepth 100000 in
theorem str_any {Tb : World → Prop} (hD : DecSaid Tb) (c : Nat) (hS : Stays Tb c) (s : ByteArray) (i : Nat) (w : World) (h : PL c s i w) (hT : Tb w) (hs : s.size ≤ 4000) (hi : i ≤ s.size) :
    Calls Tryz.prog 181 #[.pointer (some ⟨c, 0, none⟩)] w (StrPost c s i w) := by
  have HL := hid h
  have HT := hid hT
  have HS := hid hS
  have HD := hid hD
  clear h hT hS hD
  by_cases h34 : cB s i = 34
  · have hlt : i < s.size := cB_in (by omega)
    have HA := hid (expect_yes c s i 34 w HL.out hs (by omega) (by omega))
    have HX := hid (txtS_of h34)
    clear h34
    go_enter Tryz.func181, Tryz.ntmps181
    go_wp2_with fail
    refine HA.out.mono ?_
    rintro e w1 ⟨rfl, hB1, hL1⟩
    have HB1 := hid hB1
    have HL1 := hid hL1
    have hc1 := hL1.lt
    have HT1 := hid (But.stays HS.out HT.out hB1 (Nat.le_of_lt HL.out.lt))
    clear hB1 hL1 HA
    have HF : Hid (Lib.IsBuilderF 65 5 w1.heap.size w1.heap.size (Lib.byteCells []) (w1.alloc (.cells #[.pointer none, .slice none 0 0] 65))) := Lib.IsBuilderF.of (Lib.fresh_isBuilder 65 5 w1)
    have HBa : Hid (But c w1 (w1.alloc (.cells #[.pointer none, .slice none 0 0] 65))) := But.of ((Below.refl _ _).alloc (Nat.le_refl _) _)
    have HLa := hid (HL1.out.keep ((Below.refl _ _).alloc (Nat.le_refl _) (.cells #[.pointer none, .slice none 0 0] 65)))
    go_wp2_with fail
    go_loopg [] (s.size - (i + 1)) (fun g wr => ∃ (k n : Nat) (acc : List UInt8), g = s.size - k ∧ k ≤ s.size ∧ s.size + 1 ≤ n + k ∧ acc.length ≤ 4 * k ∧ Hid (PL c s k wr) ∧ Hid (Lib.IsBuilderF 65 5 w1.heap.size w1.heap.size (Lib.byteCells acc) wr) ∧ Hid (But c w1 wr) ∧ Hid (txtN s (s.size + 1) (i + 1) = (txtN s n k).map fun p => (acc ++ p.1, p.2)))
    case atStart => exact ⟨i + 1, s.size + 1, [], rfl, by omega, by omega, by simp, HLa, HF, HBa, by show _ = _; cases txtN s (s.size + 1) (i + 1) <;> rfl⟩
    case round =>
      clear HF HBa HLa
      obtain ⟨k, n, acc, rfl, hk, hn, hacc, HLk, HF, HBk, HN⟩ := hrel
      obtain ⟨n, rfl⟩ : ∃ m, n = m + 1 := ⟨n - 1, by omega⟩
      by_cases hq : cB s k = 34
      · have HZ : Hid (txtS s i = some (baL acc, k + 1)) := by
          show _ = _
          rw [HX.out, HN.out, txtN_quote hq]
          simp
        go_wp2_with fail
        refine (accept_yes c s k 34 wr HLk.out hs (by omega) (by omega)).mono ?_
        rintro e w2 ⟨rfl, hB2, hL2⟩
        have HL2 := hid hL2
        have HF2 := hid (builder_but HF.out hB2 hc1)
        have HB2 := hid (HBk.out.trans hB2)
        clear hB2 hL2 HLk HF HBk
        go_wp2_with fail
        refine (string_any w1.heap.size w1.heap.size acc w2 HF2.out HB2.out.size).mono ?_
        rintro e w3 ⟨rfl, hb3⟩
        have HB3 := hid (HB2.out.over hb3)
        have HL3 := hid (HL2.out.move hb3.size (hb3.block _ hc1))
        clear hb3
        go_wp2_with fail
        go_ret
        exact ⟨HB1.out.trans HB3.out, Or.inl ⟨_, _, HZ.out, rfl, HL3.out⟩⟩
      · go_wp2_with fail
        refine (accept_no c s k 34 wr HLk.out hk (by omega)).mono ?_
        rintro e w2 ⟨rfl, hB2, hL2⟩
        have HL2 := hid hL2
        have HF2 := hid (builder_but HF.out hB2 hc1)
        have HB2 := hid (HBk.out.trans hB2)
        have HT2 := hid (But.stays HS.out HT1.out HB2.out (Nat.le_of_lt hc1))
        clear hB2 hL2 HLk HF HBk
        go_wp2_with fail
        refine (letter_any HD.out c HS.out s k w2 HL2.out HT2.out hs hk).mono ?_
        rintro e w3 ⟨hB3, ⟨r, j, hr, rfl, hL3⟩ | ⟨hr, rfl⟩⟩
        · have HL3 := hid hL3
          have HF3 := hid (builder_but HF2.out hB3 hc1)
          have HB3 := hid (HB2.out.trans hB3)
          have hadv := letS_adv hr
          have HN3 := hid (HN.out.trans (txtN_let (n := n) acc hq hr))
          have hl4 := Lib.runeCells_le (r : Int)
          rw [Lib.runeCells_length] at hl4
          clear hB3 hL3 hr HL2 HF2 HB2 HT2 HN
          go_wp2_with fail
          refine (writeRune_any w1.heap.size w1.heap.size acc r w3 hadv.2.2 HF3.out (by omega) HB3.out.size).mono ?_
          rintro e w4 ⟨rfl, hF4, hb4⟩
          have HL4 := hid (HL3.out.move hb4.size (hb4.block _ hc1))
          have HB4 := hid (HB3.out.over hb4)
          have HF4 := hid hF4
          clear hb4 hF4 HL3 HB3 HF3
          go_wp2_with fail
          go_roundg (s.size - j)
          case rel => exact ⟨j, n, acc ++ Lib.encodeRune (r : Int), rfl, by omega, by omega, by rw [List.length_append]; omega, HL4, HF4, HB4, HN3⟩
          case measure => omega
        · have HB3 := hid (HB1.out.trans (HB2.out.trans hB3))
          have HZ : Hid (txtS s i = none) := by
            show _ = _
            rw [HX.out, HN.out, txtN_none hq hr]
            rfl
          clear hB3 hr
          go_wp2_with fail
          exact ⟨rfl, HB3.out, Or.inr ⟨HZ.out, rfl⟩⟩
  · have HA := hid (expect_no c s i 34 w HL.out hs hi (by omega))
    have HX := hid (txtS_not h34)
    clear h34
    go_enter Tryz.func181, Tryz.ntmps181
    go_wp2_with fail
    refine HA.out.mono ?_
    rintro e w1 ⟨rfl, hB1⟩
    have HB1 := hid hB1
    clear hB1 HA
    go_wp2_with fail
    exact ⟨rfl, HB1.out, Or.inr ⟨HX.out, rfl⟩⟩
end Go.Proofs.YtknakfpciccoaaaGreatDoor
/- The contract of strings.Clone, of the library's shelf, laid at this dump. -/
namespace Go.Proofs
open Go.Shelf Go.RowKit
def Tryz.laysClone_ren : Go.Shelf.Ren := ⟨fun | 316 => 115 | n => n, fun | 37 => 63 | 127 => 123 | n => n, fun n => n⟩
theorem Tryz.laysClone : Go.Proofs.LaysM.n316 Tryz.prog Tryz.laysClone_ren := {
  mixed := by kernel_rfl
  f316 := Tryz.func115.trans (congrArg some (by kernel_rfl))
  t0 := Tryz.underlying0
  a0 := Tryz.isAgg0
  z0 := Tryz.sizeOf0
  v0 := Tryz.zeroValue0
  t3 := Tryz.underlying3
  a3 := Tryz.isAgg3
  z3 := Tryz.sizeOf3
  v3 := Tryz.zeroValue3
  t4 := Tryz.underlying4
  a4 := Tryz.isAgg4
  z4 := Tryz.sizeOf4
  v4 := Tryz.zeroValue4
  t9 := Tryz.underlying9
  a9 := Tryz.isAgg9
  z9 := Tryz.sizeOf9
  v9 := Tryz.zeroValue9
  t37 := Tryz.underlying63
  a37 := Tryz.isAgg63
  z37 := Tryz.sizeOf63
  v37 := Tryz.zeroValue63
  t127 := Tryz.underlying123
  a127 := Tryz.isAgg123
  z127 := Tryz.sizeOf123
  v127 := Tryz.zeroValue123
  t5 := Tryz.underlying5
  a5 := Tryz.isAgg5
  z5 := Tryz.sizeOf5
  v5 := Tryz.zeroValue5
  i0 := by kernel_rfl
  i3 := by kernel_rfl
  i4 := by kernel_rfl
  i5 := by kernel_rfl
  i9 := by kernel_rfl
  i37 := by kernel_rfl
  i127 := by kernel_rfl }
end Go.Proofs
namespace Go.Proofs.YtknakfpciccoaaaGreatDoor
open Go.RowKit
set_option maxHeartbeats 1000000 in
set_option maxRecDepth 100000 in
theorem clone_any (s : ByteArray) (w : World) (hs : s.size ≤ 140737488355328) :
    Calls Tryz.prog 70 #[.string s] w fun e w' => e = .returned (.string s) ∧ Below w.heap.size w w' := by
  have HC : Hid (Calls Tryz.prog 115 #[.string s] w fun e w' => e = .returned (.string s) ∧ Below w.heap.size w w') := Any.stringslite_Clone Tryz.laysClone s w (by omega)
  go_enter Tryz.func70, Tryz.ntmps70
  go_wp2_with (go_at_call 115; refine HC.out.mono ?_; rintro e w2 ⟨rfl, hb⟩)
  go_ret
  exact ⟨rfl, hb⟩
end Go.Proofs.YtknakfpciccoaaaGreatDoor
/- The walks of the program's reader: take, number, text. -/
namespace Go.Proofs.YtknakfpciccoaaaGreatDoor
open Go.RowKit

abbrev refused (n : Int) : Ending := .panicked [{ v := .iface 132 (.int .i64 n), recovered := false }]
/-- The reader's cell holds what is left. -/
structure Left (c : Nat) (s : ByteArray) (w : World) : Prop where
  cell : w.cell? ⟨c, 0, none⟩ = some (.string s)
  free : w.frozen? ⟨c, 0, none⟩ = false
  lt : c < w.heap.size
theorem Left.set {c : Nat} {s : ByteArray} {w : World} (h : Left c s w) (x : ByteArray) : Left c x (w.setCell ⟨c, 0, none⟩ (.string x)) := by
  refine ⟨?_, ?_, by simp [World.setCell]; exact h.lt⟩
  · have := h.cell
    simp [go_sem, this]
  · have := h.free
    simp [go_sem, this]
theorem Left.keep {c : Nat} {s : ByteArray} {w w' : World} (h : Left c s w) (hb : Below w.heap.size w w') : Left c s w' :=
  ⟨by rw [hb.cell (p := ⟨c, 0, none⟩) h.lt]; exact h.cell, by rw [hb.frozen (p := ⟨c, 0, none⟩) h.lt]; exact h.free, Nat.lt_of_lt_of_le h.lt hb.size⟩

set_option maxHeartbeats 1000000 in
set_option maxRecDepth 100000 in
theorem take_bytes (c : Nat) (s : ByteArray) (n : Nat) (w : World) (h : Left c s w) (hs : s.size ≤ 140737488355328) :
    Calls Tryz.prog 187 #[.pointer (some ⟨c, 0, none⟩), .int .u64 n] w fun e w' => (n ≤ s.size ∧ e = .returned (.string (pre s n)) ∧ w' = w.setCell ⟨c, 0, none⟩ (.string (suf s n))) ∨ (s.size < n ∧ e = refused 6 ∧ w' = w) := by
  have q0 := h.cell
  have q1 := h.free
  clear h
  by_cases hlt : n ≤ s.size
  · go_enter Tryz.func187, Tryz.ntmps187
    go_wp2_with fail
    go_ret
    exact Or.inl ⟨hlt, rfl, rfl⟩
  · go_enter Tryz.func187, Tryz.ntmps187
    go_wp2_with fail
    exact ⟨rfl, Or.inr ⟨by omega, rfl, rfl⟩⟩

/-- The bytes of a text, as a list of their own. -/
theorem bytes_of (w : World) (s : ByteArray) : ∃ cap W, (convert 9 63 (.string s)).run Tryz.prog w = .ok (.slice (some ⟨w.heap.size, 0, none⟩) s.size cap) W ∧ Below w.heap.size w W ∧ w.heap.size < W.heap.size ∧ ∀ j (h : j < s.size), W.cell? ⟨w.heap.size, j, none⟩ = some (.int .u8 ((s[j]'h).toNat : Nat)) := by
  refine ⟨_, _, run_bytes_of_string (P := Tryz.prog) w 9 63 5 s Tryz.underlying9 Tryz.underlying63 Tryz.underlying5, (Below.refl _ _).drew.alloc (Nat.le_refl _) _, by simp, fun j h => ?_⟩
  have hh : j < s.data.size := h
  have e : (w.drew.alloc (.cells (bytesRow s (grownCap w s.size 0 5)) 5 ((bytesRow s (grownCap w s.size 0 5)).size, (bytesRow s (grownCap w s.size 0 5)).size + 1))).heap[w.heap.size]? = some (.cells (bytesRow s (grownCap w s.size 0 5)) 5 ((bytesRow s (grownCap w s.size 0 5)).size, (bytesRow s (grownCap w s.size 0 5)).size + 1)) := heap_alloc_new w.drew _
  rw [cell_of_row _ _ j _ 5 _ e]
  simp [bytesRow, Array.getElem?_append]
  rw [if_pos h, Array.getElem?_eq_getElem hh]
  rfl
def NumPost (c : Nat) (s : ByteArray) (b : Nat) (w : World) (e : Ending) (w' : World) : Prop :=
  But c w w' ∧ ((b ≤ s.size ∧ e = .returned (.int .u64 (numB (pre s b))) ∧ Left c (suf s b) w') ∨ (s.size < b ∧ e = refused 6))
set_option maxHeartbeats 1000000 in
set_option maxRecDepth 100000 in
theorem number_bytes (c : Nat) (s : ByteArray) (b : Nat) (w : World) (h : Left c s w) (hb : b ≤ 8) (hs : s.size ≤ 140737488355328) :
    Calls Tryz.prog 145 #[.pointer (some ⟨c, 0, none⟩), .int .u64 b] w (NumPost c s b w) := by
  have HL := hid h
  have HT := hid (take_bytes c s b w h hs)
  clear h
  go_enter Tryz.func145, Tryz.ntmps145
  go_wp2_with fail
  refine HT.out.mono ?_
  rintro e w1 (⟨h1, rfl, rfl⟩ | ⟨h1, rfl, rfl⟩)
  · obtain ⟨cap, W, hcv, hbW, hsW, hcl⟩ := bytes_of (w.setCell ⟨c, 0, none⟩ (.string (suf s b))) (pre s b)
    have hps := pre_size h1
    have HL1 := hid (HL.out.set (suf s b))
    have hhs : (w.setCell ⟨c, 0, none⟩ (.string (suf s b))).heap.size = w.heap.size := by simp [World.setCell]
    rw [hhs] at hcv hbW hsW hcl
    have HB0 := hid (But.set w c 0 (.string (suf s b)))
    have HL2 := hid (HL1.out.keep (hhs ▸ hbW))
    have HB1 := hid (HB0.out.trans (But.of (hhs ▸ hbW)))
    have Hps := hid hps
    have Hcl := hid hcl
    have l8 : (pre s b).size ≤ 8 := by omega
    clear hbW hhs hps hcl HL1 HB0
    go_wp2_with fail
    go_loopg [5, 7, 13] (pre s b).size (fun g n z i wr => ∃ k : Nat, g = (pre s b).size - k ∧ k ≤ (pre s b).size ∧ i = .int .i64 k ∧ n = .int .u64 (numTo (pre s b) k) ∧ wr = W)
    case atStart => exact ⟨0, rfl, Nat.zero_le _, rfl, rfl, rfl⟩
    case round =>
      obtain ⟨k, rfl, hk, rfl, rfl, rfl⟩ := hrel
      by_cases hlt : k < (pre s b).size
      · have hc0 := Hcl.out k hlt
        have hn1 := numTo_succ (pre s b) k hlt
        have hn2 : numTo (pre s b) k < 72057594037927936 := Nat.lt_of_lt_of_le (numTo_lt (pre s b) k) (Nat.pow_le_pow_right (show 0 < 256 by decide) (show k ≤ 7 by omega))
        have hx := ((pre s b)[k]'hlt).toNat_lt
        generalize ((pre s b)[k]'hlt).toNat = x at hc0 hn1 hx
        have Hn1 := hid hn1
        clear hn1
        go_wp2_with fail
        go_roundg ((pre s b).size - (k + 1))
        case rel => exact ⟨k + 1, rfl, by omega, by go_num, by rw [Hn1.out]; go_num, rfl⟩
        case measure => omega
      · have Hk : Hid (k = (pre s b).size) := by show k = _; omega
        go_wp2_with fail
        go_ret
        refine ⟨HB1.out, Or.inl ⟨h1, ?_, HL2.out⟩⟩
        rw [Hk.out, numTo_all]
        rfl
  · go_wp2_with fail
    exact ⟨rfl, But.refl _ _, Or.inr ⟨h1, rfl⟩⟩
def TextPost (c : Nat) (s : ByteArray) (b : Nat) (w : World) (e : Ending) (w' : World) : Prop :=
  But c w w' ∧ ((∃ x r, szB s b = some (x, r) ∧ e = .returned (.string x) ∧ Left c r w') ∨ (szB s b = none ∧ e = refused 6))
theorem szB_short {s : ByteArray} {b : Nat} (h : s.size < b) : szB s b = none := by unfold szB; rw [if_pos h]
theorem szB_none {s : ByteArray} {b : Nat} (h : b ≤ s.size) (h2 : (suf s b).size < numB (pre s b)) : szB s b = none := by unfold szB; rw [if_neg (by omega), if_pos h2]
theorem szB_some {s : ByteArray} {b : Nat} (h : b ≤ s.size) (h2 : numB (pre s b) ≤ (suf s b).size) : szB s b = some (pre (suf s b) (numB (pre s b)), suf (suf s b) (numB (pre s b))) := by unfold szB; rw [if_neg (by omega), if_neg (by omega)]
theorem numB_pre_lt {s : ByteArray} {b : Nat} (h : b ≤ s.size) (hb : b ≤ 8) : numB (pre s b) < 18446744073709551616 := by
  have h1 := numB_lt (pre s b)
  rw [pre_size h] at h1
  exact Nat.lt_of_lt_of_le h1 (Nat.pow_le_pow_right (show 0 < 256 by decide) hb)
set_option maxHeartbeats 1000000 in
set_option maxRecDepth 100000 in
theorem text_bytes (c : Nat) (s : ByteArray) (b : Nat) (w : World) (h : Left c s w) (hb : b ≤ 8) (hs : s.size ≤ 140737488355328) :
    Calls Tryz.prog 146 #[.pointer (some ⟨c, 0, none⟩), .int .u64 b] w (TextPost c s b w) := by
  have HN := hid (number_bytes c s b w h hb hs)
  clear h
  go_enter Tryz.func146, Tryz.ntmps146
  go_wp2_with fail
  refine HN.out.mono ?_
  rintro e w1 ⟨B1, ⟨h1, rfl, L1⟩ | ⟨h1, rfl⟩⟩
  · have HB1 := hid B1
    have hsz := suf_size s b
    have hnn := numB_pre_lt h1 hb
    have HT := hid (take_bytes c (suf s b) (numB (pre s b)) w1 L1 (by omega))
    have HL1 := hid L1
    clear B1 L1
    go_wp2_with fail
    refine HT.out.mono ?_
    rintro e w2 (⟨h2, rfl, rfl⟩ | ⟨h2, rfl, rfl⟩)
    · have Hsz := hid (szB_some h1 h2)
      have hps := pre_size h2
      have HC := hid (clone_any (pre (suf s b) (numB (pre s b))) (w1.setCell ⟨c, 0, none⟩ (.string (suf (suf s b) (numB (pre s b))))) (by omega))
      have HL2 := hid (HL1.out.set (suf (suf s b) (numB (pre s b))))
      have HB2 := hid (HB1.out.trans (But.set w1 c 0 (.string (suf (suf s b) (numB (pre s b))))))
      clear hps
      go_wp2_with fail
      refine HC.out.mono ?_
      rintro e w3 ⟨rfl, hb3⟩
      have HL3 := hid (HL2.out.keep hb3)
      have HB3 := hid (HB2.out.trans (But.of hb3))
      clear hb3
      go_wp2_with fail
      go_ret
      exact ⟨HB3.out, Or.inl ⟨_, _, Hsz.out, rfl, HL3.out⟩⟩
    · go_wp2_with fail
      exact ⟨rfl, HB1.out, Or.inr ⟨szB_none h1 h2, rfl⟩⟩
  · have HB1 := hid B1
    clear B1
    go_wp2_with fail
    exact ⟨rfl, HB1.out, Or.inr ⟨szB_short h1, rfl⟩⟩
theorem text_some {c : Nat} {s : ByteArray} {b : Nat} {w : World} {x r : ByteArray} (hz : szB s b = some (x, r)) (h : Left c s w) (hb : b ≤ 8) (hs : s.size ≤ 140737488355328) :
    Calls Tryz.prog 146 #[.pointer (some ⟨c, 0, none⟩), .int .u64 b] w fun e w' => e = .returned (.string x) ∧ But c w w' ∧ Left c r w' := by
  refine (text_bytes c s b w h hb hs).mono ?_
  rintro e w' ⟨hB, ⟨x', r', hz', rfl, hL⟩ | ⟨hz', _⟩⟩
  · rw [hz] at hz'
    cases hz'
    exact ⟨rfl, hB, hL⟩
  · rw [hz] at hz'
    cases hz'
theorem text_none {c : Nat} {s : ByteArray} {b : Nat} {w : World} (hz : szB s b = none) (h : Left c s w) (hb : b ≤ 8) (hs : s.size ≤ 140737488355328) :
    Calls Tryz.prog 146 #[.pointer (some ⟨c, 0, none⟩), .int .u64 b] w fun e w' => e = refused 6 ∧ But c w w' := by
  refine (text_bytes c s b w h hb hs).mono ?_
  rintro e w' ⟨hB, ⟨x', r', hz', rfl, hL⟩ | ⟨hz', rfl⟩⟩
  · rw [hz] at hz'
    cases hz'
  · exact ⟨rfl, hB⟩
end Go.Proofs.YtknakfpciccoaaaGreatDoor
/- The walk of the program's reader: entries. -/
namespace Go.Proofs.YtknakfpciccoaaaGreatDoor
open Go.RowKit

def ValPost (c d : Nat) (s : ByteArray) (w : World) (e : Ending) (w' : World) : Prop :=
  But c w w' ∧ ((∃ t r es A B C D, decP d s = some (t, r) ∧ e = .returned (five t A B C D) ∧ Flat w' (d + 1) (five t A B C D) t es ∧ Sep w.heap.size w' es ∧ Left c r w') ∨ (decP d s = none ∧ e = refused 6))
def ValSaid (d : Nat) : Prop := ∀ (c : Nat) (s : ByteArray) (w : World), Left c s w → s.size ≤ 140737488355328 → Calls Tryz.prog 108 #[.pointer (some ⟨c, 0, none⟩), .int .i64 ((12 - d : Nat) : Int)] w (ValPost c d s w)
/-- A box of five cells. -/
structure BoxAt (b : Nat) (c0 c1 c2 c3 c4 : Value) (w : World) : Prop where
  q0 : w.cell? ⟨b, 0, none⟩ = some c0
  q1 : w.cell? ⟨b, 1, none⟩ = some c1
  q2 : w.cell? ⟨b, 2, none⟩ = some c2
  q3 : w.cell? ⟨b, 3, none⟩ = some c3
  q4 : w.cell? ⟨b, 4, none⟩ = some c4
  f0 : w.frozen? ⟨b, 0, none⟩ = false
  f1 : w.frozen? ⟨b, 1, none⟩ = false
  f2 : w.frozen? ⟨b, 2, none⟩ = false
  f3 : w.frozen? ⟨b, 3, none⟩ = false
  f4 : w.frozen? ⟨b, 4, none⟩ = false
  lt : b < w.heap.size
def entO (d : Nat) (k : Int) (s : ByteArray) : Option (T × ByteArray) := (szB s 4).bind fun p => (ents (decP d) (k == 6) p.1.size p.1).bind fun q => some (mkT k 0 ByteArray.empty q.2 q.1, p.2)
def EntPost (c d : Nat) (k : Int) (s : ByteArray) (w : World) (e : Ending) (w' : World) : Prop :=
  But c w w' ∧ ((∃ t r es A B C D, entO d k s = some (t, r) ∧ e = .returned (five t A B C D) ∧ Flat w' (d + 2) (five t A B C D) t es ∧ Sep w.heap.size w' es ∧ Left c r w') ∨ (entO d k s = none ∧ e = refused 6))

theorem BoxAt.move {b : Nat} {c0 c1 c2 c3 c4 : Value} {w w' : World} (h : BoxAt b c0 c1 c2 c3 c4 w) (hs : w.heap.size ≤ w'.heap.size) (hb : w'.heap[b]? = w.heap[b]?) : BoxAt b c0 c1 c2 c3 c4 w' :=
  ⟨(cell_of hb _).trans h.q0, (cell_of hb _).trans h.q1, (cell_of hb _).trans h.q2, (cell_of hb _).trans h.q3, (cell_of hb _).trans h.q4,
   (World.frozen?_of_block (w := w) (a := ⟨b, _, none⟩) hb).trans h.f0, (World.frozen?_of_block (w := w) (a := ⟨b, _, none⟩) hb).trans h.f1, (World.frozen?_of_block (w := w) (a := ⟨b, _, none⟩) hb).trans h.f2, (World.frozen?_of_block (w := w) (a := ⟨b, _, none⟩) hb).trans h.f3, (World.frozen?_of_block (w := w) (a := ⟨b, _, none⟩) hb).trans h.f4, Nat.lt_of_lt_of_le h.lt hs⟩
theorem Left.move {c : Nat} {s : ByteArray} {w w' : World} (h : Left c s w) (hs : w.heap.size ≤ w'.heap.size) (hb : w'.heap[c]? = w.heap[c]?) : Left c s w' :=
  ⟨(cell_of hb _).trans h.cell, (World.frozen?_of_block (w := w) (a := ⟨c, _, none⟩) hb).trans h.free, Nat.lt_of_lt_of_le h.lt hs⟩
theorem BoxAt.put3 {b : Nat} {c0 c1 c2 c3 c4 : Value} {w : World} (h : BoxAt b c0 c1 c2 c3 c4 w) (u : Value) : BoxAt b c0 c1 c2 u c4 (w.setCell ⟨b, 3, none⟩ u) := by
  refine ⟨?_, ?_, ?_, ?_, ?_, ?_, ?_, ?_, ?_, ?_, by simp [World.setCell]; exact h.lt⟩
  · rw [set_other (by omega)]; exact h.q0
  · rw [set_other (by omega)]; exact h.q1
  · rw [set_other (by omega)]; exact h.q2
  · exact World.cell?_setCell_same _ _ _ h.q3
  · rw [set_other (by omega)]; exact h.q4
  · rw [World.frozen?_setCell]; exact h.f0
  · rw [World.frozen?_setCell]; exact h.f1
  · rw [World.frozen?_setCell]; exact h.f2
  · rw [World.frozen?_setCell]; exact h.f3
  · rw [World.frozen?_setCell]; exact h.f4
theorem BoxAt.put4 {b : Nat} {c0 c1 c2 c3 c4 : Value} {w : World} (h : BoxAt b c0 c1 c2 c3 c4 w) (u : Value) : BoxAt b c0 c1 c2 c3 u (w.setCell ⟨b, 4, none⟩ u) := by
  refine ⟨?_, ?_, ?_, ?_, ?_, ?_, ?_, ?_, ?_, ?_, by simp [World.setCell]; exact h.lt⟩
  · rw [set_other (by omega)]; exact h.q0
  · rw [set_other (by omega)]; exact h.q1
  · rw [set_other (by omega)]; exact h.q2
  · rw [set_other (by omega)]; exact h.q3
  · exact World.cell?_setCell_same _ _ _ h.q4
  · rw [World.frozen?_setCell]; exact h.f0
  · rw [World.frozen?_setCell]; exact h.f1
  · rw [World.frozen?_setCell]; exact h.f2
  · rw [World.frozen?_setCell]; exact h.f3
  · rw [World.frozen?_setCell]; exact h.f4
theorem box_new (w : World) (c0 c1 c2 c3 c4 : Value) : BoxAt w.heap.size c0 c1 c2 c3 c4 (w.alloc (.cells #[c0, c1, c2, c3, c4] 25)) := by
  refine ⟨?_, ?_, ?_, ?_, ?_, ?_, ?_, ?_, ?_, ?_, ?_⟩ <;> simp [go_sem]
theorem left_new (w : World) (s : ByteArray) : Left w.heap.size s (w.alloc (.cells #[.string s] 139)) := by
  refine ⟨?_, ?_, ?_⟩ <;> simp [go_sem]
/-- What holds at the loop's head: in memory. -/
structure EI (d : Nat) (k : Int) (c : Nat) (w : World) (b2 : Nat) (rest a : ByteArray) (L : List T) (K : List ByteArray) (Lv Kv : Value) (xs : List Value) (sub : Nat → List Ent) (wr : World) : Prop where
  grow : Grow (b2 + 1) (d + 1) wr Lv Kv L K xs sub
  res : BoxAt w.heap.size (.int .i64 0) (.int .i64 0) (.string ⟨#[]⟩) (.slice none 0 0) (.slice none 0 0) wr
  box : BoxAt (w.heap.size + 1) (.int .i64 k) (.int .i64 0) (.string ⟨#[]⟩) Lv Kv wr
  inn : Left b2 a wr
  out : Left c rest wr
  but : But c w wr
  lc : c < w.heap.size
  lb : w.heap.size + 1 < b2
section
variable {d : Nat} {k : Int} {c : Nat} {w : World} {b2 : Nat} {rest a : ByteArray} {L : List T} {K : List ByteArray} {Lv Kv : Value} {xs : List Value} {sub : Nat → List Ent} {wr : World}
theorem EI.inner (h : EI d k c w b2 rest a L K Lv Kv xs sub wr) {w1 : World} {a1 : ByteArray} (hB : But b2 wr w1) (hL : Left b2 a1 w1) : EI d k c w b2 rest a1 L K Lv Kv xs sub w1 := by
  have h1 := h.lc
  have h2 := h.lb
  refine ⟨h.grow.move hB.size (fun b hb hh => hB.block b hh (by omega)), h.res.move hB.size (hB.block _ h.res.lt (by omega)), h.box.move hB.size (hB.block _ h.box.lt (by omega)), hL, h.out.move hB.size (hB.block _ h.out.lt (by omega)), ?_, h1, h2⟩
  have hb := h.but
  exact ⟨hB.os.trans hb.os, hB.tape.trans hb.tape, hB.output.trans hb.output, Nat.le_trans hb.size hB.size, fun i hi hc => (hB.block i (Nat.lt_of_lt_of_le hi hb.size) (by omega)).trans (hb.block i hi hc)⟩
theorem EI.keep (h : EI d k c w b2 rest a L K Lv Kv xs sub wr) {w1 : World} (hB : Below wr.heap.size wr w1) : EI d k c w b2 rest a L K Lv Kv xs sub w1 :=
  h.inner (But.of hB) (h.inn.keep hB)
theorem EI.putK (h : EI d k c w b2 rest a L K Lv Kv xs sub wr) {w2 : World} {Kv' : Value} {nm : ByteArray} (hk : nm.size ≤ 140737488355328)
    (hO : w2.ownsRow (b2 + 1) eS 1 Kv' (K.length + 1) (namesV K ++ [.string nm])) (hG : wr.grownBy w2 Kv.ownBlock) (hN : NewOr wr Kv Kv') : EI d k c w b2 rest a L (K ++ [nm]) Lv Kv' xs sub (w2.setCell ⟨w.heap.size + 1, 4, none⟩ Kv') := by
  have h1 := h.lc
  have h2 := h.lb
  have hne : ∀ b, b ≤ b2 → some b ≠ Kv.ownBlock := fun b hb e => by
    have := (h.grow.ownK.lt b e.symm).1
    omega
  have hblk : ∀ b, b < wr.heap.size → b ≤ b2 → w2.heap[b]? = wr.heap[b]? := fun b hb hh => hG.block b hb (hne b hh)
  have hset : ∀ b, b ≠ w.heap.size + 1 → (w2.setCell ⟨w.heap.size + 1, 4, none⟩ Kv').heap[b]? = w2.heap[b]? := fun b hb => Below.heap_setCell _ _ _ _ (by simpa using hb)
  have hsz : (w2.setCell ⟨w.heap.size + 1, 4, none⟩ Kv').heap.size = w2.heap.size := by simp [World.setCell]
  have hs2 := hG.size
  refine ⟨(h.grow.addK nm hk hO hG hN).set _ _ _ (by omega), h.res.move (by omega) ((hset _ (by omega)).trans (hblk _ h.res.lt (by omega))), (h.box.move hs2 (hblk _ h.box.lt (by omega))).put4 Kv', h.inn.move (by omega) ((hset _ (by omega)).trans (hblk _ h.inn.lt (by omega))), h.out.move (by omega) ((hset _ (by omega)).trans (hblk _ h.out.lt (by omega))), ?_, h1, h2⟩
  have hb := h.but
  have hbs := hb.size
  refine ⟨hG.os.trans hb.os, hG.tape.trans hb.tape, hG.output.trans hb.output, by omega, fun i hi hc => ?_⟩
  exact (hset i (by omega)).trans ((hblk i (by omega) (by omega)).trans (hb.block i hi hc))
theorem EI.putL (h : EI d k c w b2 rest a L K Lv Kv xs sub wr) {w2 : World} {Lv' : Value} {x : T} {es : List Ent} {c0 c1 c2 c3 c4 : Value} (hF : Flat wr (d + 1) (.agg #[c0, c1, c2, c3, c4]) x es)
    (hS : Sep (b2 + 1) wr (catE sub L.length ++ es ++ [⟨Lv, L.length, Kv, K.length⟩])) (hO : w2.ownsRow (b2 + 1) eV 5 Lv' (L.length + 1) (xs ++ [c0, c1, c2, c3, c4])) (hG : wr.grownBy w2 Lv.ownBlock) (hN : NewOr wr Lv Lv') :
    EI d k c w b2 rest a (L ++ [x]) K Lv' Kv (xs ++ [c0, c1, c2, c3, c4]) (updE sub L.length es) (w2.setCell ⟨w.heap.size + 1, 3, none⟩ Lv') := by
  have h1 := h.lc
  have h2 := h.lb
  have hne : ∀ b, b ≤ b2 → some b ≠ Lv.ownBlock := fun b hb e => by
    have := (h.grow.ownL.lt b e.symm).1
    omega
  have hblk : ∀ b, b < wr.heap.size → b ≤ b2 → w2.heap[b]? = wr.heap[b]? := fun b hb hh => hG.block b hb (hne b hh)
  have hset : ∀ b, b ≠ w.heap.size + 1 → (w2.setCell ⟨w.heap.size + 1, 3, none⟩ Lv').heap[b]? = w2.heap[b]? := fun b hb => Below.heap_setCell _ _ _ _ (by simpa using hb)
  have hsz : (w2.setCell ⟨w.heap.size + 1, 3, none⟩ Lv').heap.size = w2.heap.size := by simp [World.setCell]
  have hs2 := hG.size
  refine ⟨(h.grow.addL hF hS hO hG hN).set _ _ _ (by omega), h.res.move (by omega) ((hset _ (by omega)).trans (hblk _ h.res.lt (by omega))), (h.box.move hs2 (hblk _ h.box.lt (by omega))).put3 Lv', h.inn.move (by omega) ((hset _ (by omega)).trans (hblk _ h.inn.lt (by omega))), h.out.move (by omega) ((hset _ (by omega)).trans (hblk _ h.out.lt (by omega))), ?_, h1, h2⟩
  have hb := h.but
  have hbs := hb.size
  refine ⟨hG.os.trans hb.os, hG.tape.trans hb.tape, hG.output.trans hb.output, by omega, fun i hi hc => ?_⟩
  exact (hset i (by omega)).trans ((hblk i (by omega) (by omega)).trans (hb.block i hi hc))
end
theorem ents_empty (f : ByteArray → Option (T × ByteArray)) (o : Bool) (n : Nat) (a : ByteArray) (h : a.size = 0) : ents f o n a = some ([], []) := by
  cases n <;> (unfold ents; rw [if_pos h])
/-- One more. -/
def nextE (f : ByteArray → Option (T × ByteArray)) (o : Bool) (n : Nat) (L : List T) (K : List ByteArray) (a : ByteArray) : Option (List ByteArray × List T) := (f a).bind fun q => (ents f o n q.2).bind fun r => some (K ++ r.1, L ++ q.1 :: r.2)
theorem ents_K {f : ByteArray → Option (T × ByteArray)} {n : Nat} {a nm a1 : ByteArray} {L : List T} {K : List ByteArray} (h : a.size ≠ 0) (hz : szB a 2 = some (nm, a1)) : ((ents f true (n + 1) a).map fun p => (K ++ p.1, L ++ p.2)) = nextE f true n L (K ++ [nm]) a1 := by
  unfold ents nextE
  rw [if_neg h, if_pos rfl, hz]
  simp only [Option.bind_some]
  cases f a1 with
  | none => rfl
  | some q =>
    simp only [Option.bind_some]
    cases ents f true n q.2 with
    | none => rfl
    | some r => simp
theorem ents_K0 {f : ByteArray → Option (T × ByteArray)} {n : Nat} {a : ByteArray} {L : List T} {K : List ByteArray} (h : a.size ≠ 0) (hz : szB a 2 = none) : ((ents f true (n + 1) a).map fun p => (K ++ p.1, L ++ p.2)) = none := by
  unfold ents
  rw [if_neg h, if_pos rfl, hz]
  rfl
theorem ents_L {f : ByteArray → Option (T × ByteArray)} {n : Nat} {a : ByteArray} {L : List T} {K : List ByteArray} (h : a.size ≠ 0) : ((ents f false (n + 1) a).map fun p => (K ++ p.1, L ++ p.2)) = nextE f false n L K a := by
  unfold ents nextE
  rw [if_neg h, if_neg (by simp)]
  simp only [Option.bind_some]
  cases f a with
  | none => rfl
  | some q =>
    simp only [Option.bind_some]
    cases ents f false n q.2 with
    | none => rfl
    | some r => simp
theorem next_none {f : ByteArray → Option (T × ByteArray)} {o : Bool} {n : Nat} {a : ByteArray} {L : List T} {K : List ByteArray} (h : f a = none) : nextE f o n L K a = none := by unfold nextE; rw [h]; rfl
theorem next_some {f : ByteArray → Option (T × ByteArray)} {o : Bool} {n : Nat} {a r : ByteArray} {x : T} {L : List T} {K : List ByteArray} (h : f a = some (x, r)) : nextE f o n L K a = (ents f o n r).map fun p => (K ++ p.1, (L ++ [x]) ++ p.2) := by
  unfold nextE
  rw [h]
  simp only [Option.bind_some]
  cases ents f o n r with
  | none => rfl
  | some p => simp
/-- The same contract, with what comes of it told ahead. -/
theorem val_some {c d : Nat} {s : ByteArray} {w : World} {t : T} {r : ByteArray} (hv : ValSaid d) (hz : decP d s = some (t, r)) (h : Left c s w) (hs : s.size ≤ 140737488355328) :
    Calls Tryz.prog 108 #[.pointer (some ⟨c, 0, none⟩), .int .i64 ((12 - d : Nat) : Int)] w fun e w' => ∃ es A B C D, e = .returned (five t A B C D) ∧ But c w w' ∧ Flat w' (d + 1) (five t A B C D) t es ∧ Sep w.heap.size w' es ∧ Left c r w' := by
  refine (hv c s w h hs).mono ?_
  rintro e w' ⟨hB, ⟨t', r', es, A, B, C, D, hz', rfl, hF, hS, hL⟩ | ⟨hz', _⟩⟩
  · rw [hz] at hz'
    cases hz'
    exact ⟨es, A, B, C, D, rfl, hB, hF, hS, hL⟩
  · rw [hz] at hz'
    cases hz'
theorem val_none {c d : Nat} {s : ByteArray} {w : World} (hv : ValSaid d) (hz : decP d s = none) (h : Left c s w) (hs : s.size ≤ 140737488355328) :
    Calls Tryz.prog 108 #[.pointer (some ⟨c, 0, none⟩), .int .i64 ((12 - d : Nat) : Int)] w fun e w' => e = refused 6 ∧ But c w w' := by
  refine (hv c s w h hs).mono ?_
  rintro e w' ⟨hB, ⟨t', r', es, A, B, C, D, hz', _⟩ | ⟨hz', rfl⟩⟩
  · rw [hz] at hz'
    cases hz'
  · exact ⟨rfl, hB⟩
end Go.Proofs.YtknakfpciccoaaaGreatDoor
/- The walks of the program's parser: numbers, words. -/
namespace Go.Proofs.YtknakfpciccoaaaGreatDoor
open Go.RowKit

theorem sign_any (c : Nat) (s : ByteArray) (i : Nat) (w : World) (h : PL c s i w) (hs : s.size ≤ 4000) (hi : i ≤ s.size) :
    Calls Tryz.prog 179 #[.pointer (some ⟨c, 0, none⟩), .int .u8 45] w fun e w' => ∃ b, e = .returned (.bool b) ∧ But c w w' ∧ PL c s (sgn s i) w' := by
  by_cases h45 : cB s i = 45
  · refine (accept_yes c s i 45 w h hs (by omega) (by omega)).mono ?_
    rintro e w' ⟨rfl, hB, hL⟩
    refine ⟨_, rfl, hB, ?_⟩
    unfold sgn
    rw [if_pos h45]
    exact hL
  · refine (accept_no c s i 45 w h hi (by omega)).mono ?_
    rintro e w' ⟨rfl, hB, hL⟩
    refine ⟨_, rfl, hB, ?_⟩
    unfold sgn
    rw [if_neg h45]
    exact hL
theorem isD_pk (s : ByteArray) (k : Nat) : isD (pk s k) = isD (cB s k) := by
  unfold pk
  by_cases h : k < s.size
  · rw [if_pos h]
  · rw [if_neg h, cB_end (by omega)]
    rfl
theorem digitAt_any (s : ByteArray) (k : Nat) (w : World) : Calls Tryz.prog 184 #[.int .u8 (pk s k : Int)] w fun e w' => e = .returned (.bool (isD (cB s k))) ∧ w' = w := by
  refine (isDigit_nat (pk s k) w).mono ?_
  rintro e w' ⟨rfl, rfl⟩
  exact ⟨ret_bool (isD_pk s k), rfl⟩
def IntPost (c : Nat) (s : ByteArray) (i : Nat) (w : World) (e : Ending) (w' : World) : Prop :=
  But c w w' ∧ ((∃ v j, numS s i = some (v, j) ∧ e = .returned (.int .i64 v) ∧ PL c s j w') ∨ (numS s i = none ∧ e = refusedT 2))
theorem numS_zero {s : ByteArray} {i : Nat} (h : sgn s i + 1 < dg s (sgn s i)) (h2 : cB s (sgn s i) = 48) : numS s i = none := by
  unfold numS
  split
  · rfl
  · rw [if_pos ⟨h, h2⟩]
theorem extract_size {s : ByteArray} {i j : Nat} (h : j ≤ s.size) : (s.extract i j).size = j - i := by rw [ByteArray.size_extract]; omega
theorem int_ok {Tb : World → Prop} (hD : IntSaid Tb) {x : ByteArray} {w : World} (hs : x.size ≤ 4000) (hT : Tb w) {v : Int} (hv : Lib.parseIntB 64 x.data.toList = .ok v) :
    Calls Tryz.prog 226 #[.string x, .int .i64 10, .int .i64 64] w fun e w' => e = .returned (.tuple #[.int .i64 v, .nilIface]) ∧ Below w.heap.size w w' := by
  refine (hD x w hs hT).mono ?_
  rintro e w' ⟨hb, ⟨v', h1, rfl⟩ | ⟨h1, _⟩⟩
  · rw [hv] at h1; cases h1; exact ⟨rfl, hb⟩
  · rw [hv] at h1; rcases h1 with h1 | h1 <;> cases h1
theorem int_bad {Tb : World → Prop} (hD : IntSaid Tb) {x : ByteArray} {w : World} (hs : x.size ≤ 4000) (hT : Tb w) (hv : Lib.parseIntB 64 x.data.toList = .«syntax» ∨ Lib.parseIntB 64 x.data.toList = .range) :
    Calls Tryz.prog 226 #[.string x, .int .i64 10, .int .i64 64] w fun e w' => ∃ (v : Int) (t : TypeId) (p : Value), e = .returned (.tuple #[.int .i64 v, .iface t p]) ∧ Below w.heap.size w w' := by
  refine (hD x w hs hT).mono ?_
  rintro e w' ⟨hb, ⟨v', h1, _⟩ | ⟨_, v, t, p, rfl⟩⟩
  · rw [h1] at hv; rcases hv with hv | hv <;> cases hv
  · exact ⟨v, t, p, rfl, hb⟩
set_option maxHeartbeats 2000000 in
set_option maxRecDepth 100000 in
theorem int_any {Tb : World → Prop} (hD : IntSaid Tb) (c : Nat) (hS : Stays Tb c) (s : ByteArray) (i : Nat) (w : World) (h : PL c s i w) (hT : Tb w) (hs : s.size ≤ 4000) (hd : cB s i = 45 ∨ isD (cB s i) = true) :
    Calls Tryz.prog 185 #[.pointer (some ⟨c, 0, none⟩)] w (IntPost c s i w) := by
  have hc256 : cB s i < 256 := by
    rcases hd with h | h
    · omega
    · unfold isD at h
      simp at h
      omega
  have hlt : i < s.size := cB_in hc256
  have hsg : i ≤ sgn s i ∧ sgn s i ≤ s.size := by unfold sgn; split <;> omega
  have HL := hid h
  have HT := hid hT
  have HS := hid hS
  have HD := hid hD
  have Hd := hid hd
  have q1 := h.q1
  have HA := hid (sign_any c s i w h hs (by omega))
  have hcl := h.lt
  clear h hT hS hD hd hc256
  go_enter Tryz.func185, Tryz.ntmps185
  go_wp2_with fail
  refine HA.out.mono ?_
  rintro e w1 ⟨b, rfl, hB1, hL1⟩
  have HB1 := hid hB1
  have HL1 := hid hL1
  have r1 := hL1.q1
  clear hB1 hL1 HA q1 HL
  have Hdg : Hid (dg s (sgn s i) ≤ s.size ∧ sgn s i ≤ dg s (sgn s i)) := ⟨dg_le hsg.2, dg_ge _ _⟩
  have Hnp := hid (numS_parse Hd.out)
  have Hnz := hid (@numS_zero s i)
  generalize hd0 : sgn s i = d at *
  go_wp2_with fail
  go_loopg [] (s.size - d) (fun g wr => ∃ k : Nat, g = s.size - k ∧ d ≤ k ∧ k ≤ s.size ∧ Hid (PL c s k wr) ∧ Hid (But c w wr) ∧ Hid (dg s k = dg s d))
  case atStart => exact ⟨d, rfl, Nat.le_refl _, hsg.2, HL1, HB1, rfl⟩
  case round =>
    clear HL1 HB1 r1
    obtain ⟨k, rfl, hk1, hk2, HLk, HBk, HKk⟩ := hrel
    go_wp2_with fail
    refine (peek_any c s k wr HLk.out hk2).mono ?_
    rintro e w2 ⟨rfl, hb2⟩
    have HL2 := hid (HLk.out.keep hb2)
    have HB2 := hid (HBk.out.trans (But.of hb2))
    clear hb2 HLk HBk
    by_cases hdk : isD (cB s k) = true
    · have hkl : k < s.size := cB_in (by unfold isD at hdk; simp at hdk; omega)
      have HK2 : Hid (dg s (k + 1) = dg s d) := by
        show _ = _
        rw [← HKk.out]
        unfold dg
        rw [pass_step isD_end s k, if_pos hdk]
      have r1 := HL2.out.q1
      have r2 := HL2.out.f1
      go_wp2_with fail
      refine (digitAt_any s k w2).mono ?_
      rintro e w3 ⟨rfl, rfl⟩
      clear HKk
      go_wp2_with fail
      go_roundg (s.size - (k + 1))
      case rel => exact ⟨k + 1, rfl, by omega, by omega, HL2.out.set (k + 1), HB2.out.trans (But.set _ c 1 _), HK2⟩
      case measure => omega
    · have hdf : isD (cB s k) = false := by simpa using hdk
      have HK2 : Hid (dg s d = k) := by
        show _ = _
        rw [← HKk.out]
        unfold dg
        rw [pass_step isD_end s k, if_neg hdk]
      have r0 := HL2.out.q0
      have r1 := HL2.out.q1
      rw [HK2.out] at Hnp Hnz
      clear hdk HKk
      go_wp2_with fail
      refine (digitAt_any s k w2).mono ?_
      rintro e w3 ⟨rfl, rfl⟩
      have HT3 := hid (But.stays HS.out HT.out HB2.out (Nat.le_of_lt hcl))
      have HT3d := hid (HS.out _ _ HT3.out ((below_drew w3).mono (Nat.le_of_lt HL2.out.lt)))
      have HL3d := hid (HL2.out.keep (below_drew w3))
      have x1 : (i : Int) ≤ (k : Int) := by omega
      have x2 : (k : Int) ≤ (s.size : Int) := by omega
      have hxs : (s.extract i k).size ≤ 4000 := by rw [extract_size hk2]; omega
      have HSS : Hid (∀ wx : World, Below w3.drew.heap.size w3.drew wx → wx.cell? ⟨c, 0, none⟩ = some (.string s) ∧ wx.cell? ⟨c, 1, none⟩ = some (.int .i64 k)) := by
        intro wx hx
        have := HL3d.out.keep hx
        exact ⟨this.q0, this.q1⟩
      by_cases hz : d + 1 < k
      · have hdl : d < s.size := by omega
        obtain ⟨z, hzs, hzc⟩ := cB_get hdl
        have y1 : decide ((d : Int) + 1 < (k : Int)) = true := decide_eq_true (by omega)
        have y0 : (d : Int) < (s.size : Int) := by omega
        by_cases h48 : cB s d = 48
        · have HZ := hid (Hnz.out hz h48)
          have y2 : ((z.toNat : Int) == 48) = true := by rw [beq_iff_eq]; omega
          clear hzc h48 HSS
          go_wp2_with fail
          exact ⟨rfl, HB2.out, Or.inr ⟨HZ.out, rfl⟩⟩
        · have HP := hid (Hnp.out (fun h => h48 h.2))
          have y2 : ((z.toNat : Int) == 48) = false := by rw [beq_eq_false_iff_ne]; omega
          clear hzc h48
          rcases HP.out with ⟨v, hv, hn⟩ | ⟨hv, hn⟩
          · have HZ := hid hn
            have HDD := hid (int_ok HD.out hxs HT3d.out hv)
            clear hv hn HP
            go_wp2_with fail
            go_region_held (fun wx => wx.cell? ⟨c, 0, none⟩ = some (.string s) ∧ wx.cell? ⟨c, 1, none⟩ = some (.int .i64 k)) (go_keep) ((go_at_call 226; refine HDD.out.mono ?_; rintro e w4 ⟨rfl, hb4⟩; have hc4 := HSS.out _ hb4))
            have HL4 := hid (HL3d.out.keep hb4)
            have HB4 := hid (HB2.out.trans ((But.of (below_drew w3)).trans (But.of hb4)))
            clear hb4 hc4
            go_wp2_with fail
            go_ret
            exact ⟨HB4.out, Or.inl ⟨_, _, HZ.out, rfl, HL4.out⟩⟩
          · have HZ := hid hn
            have HDD := hid (int_bad HD.out hxs HT3d.out hv)
            clear hv hn HP
            go_wp2_with fail
            go_region_held (fun wx => wx.cell? ⟨c, 0, none⟩ = some (.string s) ∧ wx.cell? ⟨c, 1, none⟩ = some (.int .i64 k)) (go_keep) ((go_at_call 226; refine HDD.out.mono ?_; rintro e w4 ⟨v, tt, pp, rfl, hb4⟩; have hc4 := HSS.out _ hb4))
            have HB4 := hid (HB2.out.trans ((But.of (below_drew w3)).trans (But.of hb4)))
            clear hb4 hc4
            go_wp2_with fail
            exact ⟨rfl, HB4.out, Or.inr ⟨HZ.out, rfl⟩⟩
      · have HP := hid (Hnp.out (fun h => hz h.1))
        have y1 : decide ((d : Int) + 1 < (k : Int)) = false := decide_eq_false (by omega)
        clear hz
        rcases HP.out with ⟨v, hv, hn⟩ | ⟨hv, hn⟩
        · have HZ := hid hn
          have HDD := hid (int_ok HD.out hxs HT3d.out hv)
          clear hv hn HP
          go_wp2_with fail
          go_region_held (fun wx => wx.cell? ⟨c, 0, none⟩ = some (.string s) ∧ wx.cell? ⟨c, 1, none⟩ = some (.int .i64 k)) (go_keep) ((go_at_call 226; refine HDD.out.mono ?_; rintro e w4 ⟨rfl, hb4⟩; have hc4 := HSS.out _ hb4))
          have HL4 := hid (HL3d.out.keep hb4)
          have HB4 := hid (HB2.out.trans ((But.of (below_drew w3)).trans (But.of hb4)))
          clear hb4 hc4
          go_wp2_with fail
          go_ret
          exact ⟨HB4.out, Or.inl ⟨_, _, HZ.out, rfl, HL4.out⟩⟩
        · have HZ := hid hn
          have HDD := hid (int_bad HD.out hxs HT3d.out hv)
          clear hv hn HP
          go_wp2_with fail
          go_region_held (fun wx => wx.cell? ⟨c, 0, none⟩ = some (.string s) ∧ wx.cell? ⟨c, 1, none⟩ = some (.int .i64 k)) (go_keep) ((go_at_call 226; refine HDD.out.mono ?_; rintro e w4 ⟨v, tt, pp, rfl, hb4⟩; have hc4 := HSS.out _ hb4))
          have HB4 := hid (HB2.out.trans ((But.of (below_drew w3)).trans (But.of hb4)))
          clear hb4 hc4
          go_wp2_with fail
          exact ⟨rfl, HB4.out, Or.inr ⟨HZ.out, rfl⟩⟩
end Go.Proofs.YtknakfpciccoaaaGreatDoor
