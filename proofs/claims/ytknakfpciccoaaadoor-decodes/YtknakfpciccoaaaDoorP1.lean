/- The walks of the program's reader: take, number, text. -/
import Derived.Test.YtknakfpciccoaaaDoorC1
import Derived.Test.YtknakfpciccoaaaDoorO3
import Derived.Test.YtknakfpciccoaaaDoorA1
import Derived.Test.YtknakfpciccoaaaDoorL1
import Derived.Laws.IdiomStrings
namespace Go.Proofs.YtknakfpciccoaaaDoor
open Go.RowKit

abbrev refused (n : Int) : Ending := .panicked [{ v := .iface 66 (.int .i64 n), recovered := false }]
/-- The reader's cell holds what is left. -/
structure Left (c : Nat) (s : ByteArray) (w : World) : Prop where
  cell : w.cell? ⟨c, 0, none⟩ = some (.string s)
  free : w.frozen? ⟨c, 0, none⟩ = false
  lt : c < w.heap.size
theorem Left.set {c : Nat} {s : ByteArray} {w : World} (h : Left c s w) (x : ByteArray) : Left c x (w.setCell ⟨c, 0, none⟩ (.string x)) := by
  refine ⟨?_, ?_, by simp [World.setCell]; exact h.lt⟩
  · have := h.cell
    simp [go_sem, this]
  · have := h.free
    simp [go_sem, this]
theorem Left.keep {c : Nat} {s : ByteArray} {w w' : World} (h : Left c s w) (hb : Below w.heap.size w w') : Left c s w' :=
  ⟨by rw [hb.cell (p := ⟨c, 0, none⟩) h.lt]; exact h.cell, by rw [hb.frozen (p := ⟨c, 0, none⟩) h.lt]; exact h.free, Nat.lt_of_lt_of_le h.lt hb.size⟩

set_option maxHeartbeats 1000000 in
set_option maxRecDepth 100000 in
theorem take_bytes (c : Nat) (s : ByteArray) (n : Nat) (w : World) (h : Left c s w) (hs : s.size ≤ 140737488355328) :
    Calls Tryd.prog 99 #[.pointer (some ⟨c, 0, none⟩), .int .u64 n] w fun e w' => (n ≤ s.size ∧ e = .returned (.string (pre s n)) ∧ w' = w.setCell ⟨c, 0, none⟩ (.string (suf s n))) ∨ (s.size < n ∧ e = refused 6 ∧ w' = w) := by
  have q0 := h.cell
  have q1 := h.free
  clear h
  by_cases hlt : n ≤ s.size
  · go_enter Tryd.func99, Tryd.ntmps99
    go_wp2_with fail
    go_ret
    exact Or.inl ⟨hlt, rfl, rfl⟩
  · go_enter Tryd.func99, Tryd.ntmps99
    go_wp2_with fail
    exact ⟨rfl, Or.inr ⟨by omega, rfl, rfl⟩⟩

/-- The bytes of a text, as a list of their own. -/
theorem bytes_of (w : World) (s : ByteArray) : ∃ cap W, (convert 9 60 (.string s)).run Tryd.prog w = .ok (.slice (some ⟨w.heap.size, 0, none⟩) s.size cap) W ∧ Below w.heap.size w W ∧ w.heap.size < W.heap.size ∧ ∀ j (h : j < s.size), W.cell? ⟨w.heap.size, j, none⟩ = some (.int .u8 ((s[j]'h).toNat : Nat)) := by
  refine ⟨_, _, run_bytes_of_string (P := Tryd.prog) w 9 60 5 s Tryd.underlying9 Tryd.underlying60 Tryd.underlying5, (Below.refl _ _).drew.alloc (Nat.le_refl _) _, by simp, fun j h => ?_⟩
  have hh : j < s.data.size := h
  have e : (w.drew.alloc (.cells (bytesRow s (grownCap w s.size 0 5)) 5 ((bytesRow s (grownCap w s.size 0 5)).size, (bytesRow s (grownCap w s.size 0 5)).size + 1))).heap[w.heap.size]? = some (.cells (bytesRow s (grownCap w s.size 0 5)) 5 ((bytesRow s (grownCap w s.size 0 5)).size, (bytesRow s (grownCap w s.size 0 5)).size + 1)) := heap_alloc_new w.drew _
  rw [cell_of_row _ _ j _ 5 _ e]
  simp [bytesRow, Array.getElem?_append]
  rw [if_pos h, Array.getElem?_eq_getElem hh]
  rfl
def NumPost (c : Nat) (s : ByteArray) (b : Nat) (w : World) (e : Ending) (w' : World) : Prop :=
  But c w w' ∧ ((b ≤ s.size ∧ e = .returned (.int .u64 (numB (pre s b))) ∧ Left c (suf s b) w') ∨ (s.size < b ∧ e = refused 6))
set_option maxHeartbeats 1000000 in
set_option maxRecDepth 100000 in
theorem number_bytes (c : Nat) (s : ByteArray) (b : Nat) (w : World) (h : Left c s w) (hb : b ≤ 8) (hs : s.size ≤ 140737488355328) :
    Calls Tryd.prog 76 #[.pointer (some ⟨c, 0, none⟩), .int .u64 b] w (NumPost c s b w) := by
  have HL := hid h
  have HT := hid (take_bytes c s b w h hs)
  clear h
  go_enter Tryd.func76, Tryd.ntmps76
  go_wp2_with fail
  refine HT.out.mono ?_
  rintro e w1 (⟨h1, rfl, rfl⟩ | ⟨h1, rfl, rfl⟩)
  · obtain ⟨cap, W, hcv, hbW, hsW, hcl⟩ := bytes_of (w.setCell ⟨c, 0, none⟩ (.string (suf s b))) (pre s b)
    have hps := pre_size h1
    have HL1 := hid (HL.out.set (suf s b))
    have hhs : (w.setCell ⟨c, 0, none⟩ (.string (suf s b))).heap.size = w.heap.size := by simp [World.setCell]
    rw [hhs] at hcv hbW hsW hcl
    have HB0 := hid (But.set w c 0 (.string (suf s b)))
    have HL2 := hid (HL1.out.keep (hhs ▸ hbW))
    have HB1 := hid (HB0.out.trans (But.of (hhs ▸ hbW)))
    have Hps := hid hps
    have Hcl := hid hcl
    have l8 : (pre s b).size ≤ 8 := by omega
    clear hbW hhs hps hcl HL1 HB0
    go_wp2_with fail
    go_loopg [5, 7, 13] (pre s b).size (fun g n z i wr => ∃ k : Nat, g = (pre s b).size - k ∧ k ≤ (pre s b).size ∧ i = .int .i64 k ∧ n = .int .u64 (numTo (pre s b) k) ∧ wr = W)
    case atStart => exact ⟨0, rfl, Nat.zero_le _, rfl, rfl, rfl⟩
    case round =>
      obtain ⟨k, rfl, hk, rfl, rfl, rfl⟩ := hrel
      by_cases hlt : k < (pre s b).size
      · have hc0 := Hcl.out k hlt
        have hn1 := numTo_succ (pre s b) k hlt
        have hn2 : numTo (pre s b) k < 72057594037927936 := Nat.lt_of_lt_of_le (numTo_lt (pre s b) k) (Nat.pow_le_pow_right (show 0 < 256 by decide) (show k ≤ 7 by omega))
        have hx := ((pre s b)[k]'hlt).toNat_lt
        generalize ((pre s b)[k]'hlt).toNat = x at hc0 hn1 hx
        have Hn1 := hid hn1
        clear hn1
        go_wp2_with fail
        go_roundg ((pre s b).size - (k + 1))
        case rel => exact ⟨k + 1, rfl, by omega, by go_num, by rw [Hn1.out]; go_num, rfl⟩
        case measure => omega
      · have Hk : Hid (k = (pre s b).size) := by show k = _; omega
        go_wp2_with fail
        go_ret
        refine ⟨HB1.out, Or.inl ⟨h1, ?_, HL2.out⟩⟩
        rw [Hk.out, numTo_all]
        rfl
  · go_wp2_with fail
    exact ⟨rfl, But.refl _ _, Or.inr ⟨h1, rfl⟩⟩
def TextPost (c : Nat) (s : ByteArray) (b : Nat) (w : World) (e : Ending) (w' : World) : Prop :=
  But c w w' ∧ ((∃ x r, szB s b = some (x, r) ∧ e = .returned (.string x) ∧ Left c r w') ∨ (szB s b = none ∧ e = refused 6))
theorem szB_short {s : ByteArray} {b : Nat} (h : s.size < b) : szB s b = none := by unfold szB; rw [if_pos h]
theorem szB_none {s : ByteArray} {b : Nat} (h : b ≤ s.size) (h2 : (suf s b).size < numB (pre s b)) : szB s b = none := by unfold szB; rw [if_neg (by omega), if_pos h2]
theorem szB_some {s : ByteArray} {b : Nat} (h : b ≤ s.size) (h2 : numB (pre s b) ≤ (suf s b).size) : szB s b = some (pre (suf s b) (numB (pre s b)), suf (suf s b) (numB (pre s b))) := by unfold szB; rw [if_neg (by omega), if_neg (by omega)]
theorem numB_pre_lt {s : ByteArray} {b : Nat} (h : b ≤ s.size) (hb : b ≤ 8) : numB (pre s b) < 18446744073709551616 := by
  have h1 := numB_lt (pre s b)
  rw [pre_size h] at h1
  exact Nat.lt_of_lt_of_le h1 (Nat.pow_le_pow_right (show 0 < 256 by decide) hb)
set_option maxHeartbeats 1000000 in
set_option maxRecDepth 100000 in
theorem text_bytes (c : Nat) (s : ByteArray) (b : Nat) (w : World) (h : Left c s w) (hb : b ≤ 8) (hs : s.size ≤ 140737488355328) :
    Calls Tryd.prog 77 #[.pointer (some ⟨c, 0, none⟩), .int .u64 b] w (TextPost c s b w) := by
  have HN := hid (number_bytes c s b w h hb hs)
  clear h
  go_enter Tryd.func77, Tryd.ntmps77
  go_wp2_with fail
  refine HN.out.mono ?_
  rintro e w1 ⟨B1, ⟨h1, rfl, L1⟩ | ⟨h1, rfl⟩⟩
  · have HB1 := hid B1
    have hsz := suf_size s b
    have hnn := numB_pre_lt h1 hb
    have HT := hid (take_bytes c (suf s b) (numB (pre s b)) w1 L1 (by omega))
    have HL1 := hid L1
    clear B1 L1
    go_wp2_with fail
    refine HT.out.mono ?_
    rintro e w2 (⟨h2, rfl, rfl⟩ | ⟨h2, rfl, rfl⟩)
    · have Hsz := hid (szB_some h1 h2)
      have hps := pre_size h2
      have HC := hid (clone_any (pre (suf s b) (numB (pre s b))) (w1.setCell ⟨c, 0, none⟩ (.string (suf (suf s b) (numB (pre s b))))) (by omega))
      have HL2 := hid (HL1.out.set (suf (suf s b) (numB (pre s b))))
      have HB2 := hid (HB1.out.trans (But.set w1 c 0 (.string (suf (suf s b) (numB (pre s b))))))
      clear hps
      go_wp2_with fail
      refine HC.out.mono ?_
      rintro e w3 ⟨rfl, hb3⟩
      have HL3 := hid (HL2.out.keep hb3)
      have HB3 := hid (HB2.out.trans (But.of hb3))
      clear hb3
      go_wp2_with fail
      go_ret
      exact ⟨HB3.out, Or.inl ⟨_, _, Hsz.out, rfl, HL3.out⟩⟩
    · go_wp2_with fail
      exact ⟨rfl, HB1.out, Or.inr ⟨szB_none h1 h2, rfl⟩⟩
  · have HB1 := hid B1
    clear B1
    go_wp2_with fail
    exact ⟨rfl, HB1.out, Or.inr ⟨szB_short h1, rfl⟩⟩
theorem text_some {c : Nat} {s : ByteArray} {b : Nat} {w : World} {x r : ByteArray} (hz : szB s b = some (x, r)) (h : Left c s w) (hb : b ≤ 8) (hs : s.size ≤ 140737488355328) :
    Calls Tryd.prog 77 #[.pointer (some ⟨c, 0, none⟩), .int .u64 b] w fun e w' => e = .returned (.string x) ∧ But c w w' ∧ Left c r w' := by
  refine (text_bytes c s b w h hb hs).mono ?_
  rintro e w' ⟨hB, ⟨x', r', hz', rfl, hL⟩ | ⟨hz', _⟩⟩
  · rw [hz] at hz'
    cases hz'
    exact ⟨rfl, hB, hL⟩
  · rw [hz] at hz'
    cases hz'
theorem text_none {c : Nat} {s : ByteArray} {b : Nat} {w : World} (hz : szB s b = none) (h : Left c s w) (hb : b ≤ 8) (hs : s.size ≤ 140737488355328) :
    Calls Tryd.prog 77 #[.pointer (some ⟨c, 0, none⟩), .int .u64 b] w fun e w' => e = refused 6 ∧ But c w w' := by
  refine (text_bytes c s b w h hb hs).mono ?_
  rintro e w' ⟨hB, ⟨x', r', hz', rfl, hL⟩ | ⟨hz', rfl⟩⟩
  · rw [hz] at hz'
    cases hz'
  · exact ⟨rfl, hB⟩
end Go.Proofs.YtknakfpciccoaaaDoor
