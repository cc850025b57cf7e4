import Derived.Test.YtknakfpciccoaaaGreatDoorZO30
import Derived.Test.YtknakfpciccoaaaGreatDoorZO24
import Derived.Test.YtknakfpciccoaaaGreatDoorZO10
/- A collection's row; insert. -/
namespace Go.Proofs.YtknakfpciccoaaaGreatDoor
open Go.RowKit

/-- A collection at block c: its row, and the documents that lie in it. -/
structure Col (w : World) (c f : Nat) (l : List T) (v : Value) (xs : List Value) : Prop where
  cell : w.cell? ⟨c, 0, none⟩ = some v
  free : w.frozen? ⟨c, 0, none⟩ = false
  low : c < w.heap.size
  row : w.ownsRow 0 25 5 v l.length xs
  apart : v.ownBlock ≠ some c
  at_ : ∀ i, (h : i < l.length) → At w f (fv xs i) l[i]
theorem Col.elems {w : World} {c f : Nat} {l : List T} {v : Value} {xs : List Value} (h : Col w c f l v xs) : ∃ La Lc, v = .slice La l.length Lc ∧ ElemsAt w f La (mkT 5 0 ByteArray.empty l []) := by
  have hx : xs.length = l.length * 5 := h.row.1
  rcases h.row.2 with ⟨rfl, hn⟩ | ⟨g, cap, cur, rfl, hb0, hg, rest⟩
  · refine ⟨none, 0, by rw [hn], fun i hi => ?_⟩
    rw [nL_mk] at hi
    omega
  · refine ⟨_, _, rfl, fun i hi => ?_⟩
    rw [nL_mk] at hi
    have hc : ∀ j, j < 5 → w.cell? ⟨g, i * 5 + j, none⟩ = some (cx xs (i * 5 + j)) := fun j hj => row_cell h.row (cx_some (by omega))
    have e : elt (mkT 5 0 ByteArray.empty l []) i = l[i] := by rw [elt_mk, List.getD_eq_getElem?_getD, List.getElem?_eq_getElem hi]; rfl
    refine ⟨g, 0, cx xs (i * 5), cx xs (i * 5 + 1), cx xs (i * 5 + 2), cx xs (i * 5 + 3), cx xs (i * 5 + 4), rfl, (Array.getElem?_eq_some_iff.1 hg).1, (by rw [Nat.zero_add]; exact hc 0 (by omega)), (by rw [Nat.zero_add]; exact hc 1 (by omega)), (by rw [Nat.zero_add]; exact hc 2 (by omega)), (by rw [Nat.zero_add]; exact hc 3 (by omega)), (by rw [Nat.zero_add]; exact hc 4 (by omega)), ?_⟩
    rw [e]
    exact h.at_ i hi
theorem Col.keep {w w' : World} {c f : Nat} {l : List T} {v : Value} {xs : List Value} (h : Col w c f l v xs) (hb : Below w.heap.size w w') : Col w' c f l v xs :=
  ⟨(hb.cell (p := ⟨c, 0, none⟩) h.low).trans h.cell, (hb.frozen (p := ⟨c, 0, none⟩) h.low).trans h.free, Nat.lt_of_lt_of_le h.low hb.size, rowH_move h.row fun b _ h2 => hb.block b h2, h.apart, fun i hi => At.keep hb (h.at_ i hi)⟩
/-- What was there is as it was, but for two blocks. -/
structure But2 (c : Nat) (g : Option Nat) (w w' : World) : Prop where
  os : w'.os = w.os
  tape : w'.tape = w.tape
  output : w'.output = w.output
  size : w.heap.size ≤ w'.heap.size
  block : ∀ b, b < w.heap.size → b ≠ c → some b ≠ g → w'.heap[b]? = w.heap[b]?
theorem But2.of_below {c : Nat} {g : Option Nat} {w w' : World} (h : Below w.heap.size w w') : But2 c g w w' := ⟨h.os, h.tape, h.output, h.size, fun b hb _ _ => h.block b hb⟩
theorem new_cell {w : World} {g n cap : Nat} {xs news : List Value} {base : Nat} {e : TypeId} (h : w.ownsRow base e 5 (.slice (some ⟨g, 0, none⟩) (n + 1) cap) (n + 1) (xs ++ news)) (hx : xs.length = n * 5) (j : Nat) {u : Value} (hj : j < 5) (hu : news[j]? = some u) : w.cell? ⟨g, n * 5 + j, none⟩ = some u := by
  rw [h.cellAt _ (by omega), List.getElem?_append_right (by omega), hx, Nat.add_sub_cancel_left]
  exact hu
/-- Five cells of a row are written. -/
def put5o (w : World) (g o : Nat) (u0 u1 u2 u3 u4 : Value) : World := ((((w.setCell ⟨g, o, none⟩ u0).setCell ⟨g, o + 1, none⟩ u1).setCell ⟨g, o + 2, none⟩ u2).setCell ⟨g, o + 3, none⟩ u3).setCell ⟨g, o + 4, none⟩ u4
theorem put5o_other (w : World) {g b' : Nat} (h : b' ≠ g) (o : Nat) (u0 u1 u2 u3 u4 : Value) : (put5o w g o u0 u1 u2 u3 u4).heap[b']? = w.heap[b']? := by
  have hset : ∀ (w1 : World) (o : Nat) (u : Value), (w1.setCell ⟨g, o, none⟩ u).heap[b']? = w1.heap[b']? := fun w1 o u => Below.heap_setCell _ _ _ _ (by simpa using h)
  unfold put5o
  rw [hset, hset, hset, hset, hset]
theorem put5o_rest (w : World) (g o : Nat) (u0 u1 u2 u3 u4 : Value) : (put5o w g o u0 u1 u2 u3 u4).heap.size = w.heap.size ∧ (put5o w g o u0 u1 u2 u3 u4).os = w.os ∧ (put5o w g o u0 u1 u2 u3 u4).tape = w.tape ∧ (put5o w g o u0 u1 u2 u3 u4).output = w.output := by
  unfold put5o
  simp [World.setCell]
theorem setC_rest (w : World) (a : Addr) (u : Value) : (w.setCell a u).heap.size = w.heap.size ∧ (w.setCell a u).os = w.os ∧ (w.setCell a u).tape = w.tape ∧ (w.setCell a u).output = w.output := by
  simp [World.setCell]
theorem row_put5o {w : World} {base g n cap : Nat} {e : TypeId} {xs : List Value} {y0 y1 y2 y3 y4 : Value} (h : w.ownsRow base e 5 (.slice (some ⟨g, 0, none⟩) (n + 1) cap) (n + 1) (xs ++ [y0, y1, y2, y3, y4])) (hx : xs.length = n * 5) (u0 u1 u2 u3 u4 : Value) :
    (put5o w g (n * 5) u0 u1 u2 u3 u4).ownsRow base e 5 (.slice (some ⟨g, 0, none⟩) (n + 1) cap) (n + 1) (xs ++ [u0, u1, u2, u3, u4]) := by
  have h1 := (((((h.stored (n * 5) u0).1.stored (n * 5 + 1) u1).1.stored (n * 5 + 2) u2).1.stored (n * 5 + 3) u3).1.stored (n * 5 + 4) u4).1
  have e : ((((((xs ++ [y0, y1, y2, y3, y4]).set (n * 5) u0).set (n * 5 + 1) u1).set (n * 5 + 2) u2).set (n * 5 + 3) u3).set (n * 5 + 4) u4) = xs ++ [u0, u1, u2, u3, u4] := by
    rw [← hx]
    simp
  rw [e] at h1
  exact h1
/-- What the append of insert leaves. -/
structure InsF (w W4 w6 : World) (c g n cap : Nat) (v : Value) (xs : List Value) : Prop where
  lt : xs.length = n * 5
  own : w6.ownsRow 0 25 5 (.slice (some ⟨g, 0, none⟩) (n + 1) cap) (n + 1) (xs ++ [.int .i64 0, .int .i64 0, .string ⟨#[]⟩, .slice none 0 0, .slice none 0 0])
  grown : W4.grownBy w6 v.ownBlock
  low : Below w.heap.size w W4
  hat : v.ownBlock = some g ∨ w.heap.size ≤ g
  c6 : w6.cell? ⟨c, 0, none⟩ = some v
  f6 : w6.frozen? ⟨c, 0, none⟩ = false
  gc : g ≠ c
  apart : v.ownBlock ≠ some c
theorem InsF.block {w W4 w6 : World} {c g n cap : Nat} {v : Value} {xs : List Value} (h : InsF w W4 w6 c g n cap v xs) (b : Nat) (hb : b < w.heap.size) (hv : some b ≠ v.ownBlock) : w6.heap[b]? = w.heap[b]? ∧ b ≠ g :=
  ⟨(h.grown.block b (Nat.lt_of_lt_of_le hb h.low.size) hv).trans (h.low.block b hb), fun e => by subst e; rcases h.hat with h1 | h1; exact hv h1.symm; omega⟩
theorem InsF.finA {w W4 w6 : World} {c g n cap : Nat} {v : Value} {xs : List Value} (h : InsF w W4 w6 c g n cap v xs) (u0 u1 u2 u3 u4 : Value) :
    But2 c v.ownBlock w ((put5o w6 g (n * 5) u0 u1 u2 u3 u4).setCell ⟨c, 0, none⟩ (.slice (some ⟨g, 0, none⟩) (n + 1) cap)) ∧ ((put5o w6 g (n * 5) u0 u1 u2 u3 u4).setCell ⟨c, 0, none⟩ (.slice (some ⟨g, 0, none⟩) (n + 1) cap)).cell? ⟨c, 0, none⟩ = some (.slice (some ⟨g, 0, none⟩) (n + 1) cap) ∧ ((put5o w6 g (n * 5) u0 u1 u2 u3 u4).setCell ⟨c, 0, none⟩ (.slice (some ⟨g, 0, none⟩) (n + 1) cap)).frozen? ⟨c, 0, none⟩ = false ∧ (v.ownBlock = some g ∨ w.heap.size ≤ g) ∧ ((put5o w6 g (n * 5) u0 u1 u2 u3 u4).setCell ⟨c, 0, none⟩ (.slice (some ⟨g, 0, none⟩) (n + 1) cap)).ownsRow 0 25 5 (.slice (some ⟨g, 0, none⟩) (n + 1) cap) (n + 1) (xs ++ [u0, u1, u2, u3, u4]) := by
  obtain ⟨r1, r2, r3, r4⟩ := put5o_rest w6 g (n * 5) u0 u1 u2 u3 u4
  have hcb := put5o_other w6 (Ne.symm h.gc) (n * 5) u0 u1 u2 u3 u4
  have hoth : ∀ b, b ≠ g → (put5o w6 g (n * 5) u0 u1 u2 u3 u4).heap[b]? = w6.heap[b]? := fun b hb => put5o_other w6 hb _ _ _ _ _ _
  have hrow := row_put5o h.own h.lt u0 u1 u2 u3 u4
  generalize put5o w6 g (n * 5) u0 u1 u2 u3 u4 = w7 at r1 r2 r3 r4 hcb hrow hoth ⊢
  obtain ⟨t1, t2, t3, t4⟩ := setC_rest w7 ⟨c, 0, none⟩ (.slice (some ⟨g, 0, none⟩) (n + 1) cap)
  have h3 := h.grown.size
  have h4 := h.low.size
  have k1 := World.cell?_setCell_same w7 ⟨c, 0, none⟩ (.slice (some ⟨g, 0, none⟩) (n + 1) cap) ((cell_of hcb 0).trans h.c6)
  have k2 : (w7.setCell ⟨c, 0, none⟩ (.slice (some ⟨g, 0, none⟩) (n + 1) cap)).frozen? ⟨c, 0, none⟩ = false := by
    rw [World.frozen?_setCell]
    exact (World.frozen?_of_block (a := ⟨c, 0, none⟩) hcb).trans h.f6
  have k3 := ownsRow_setCell_other (a := ⟨c, 0, none⟩) hrow (by simpa [Value.ownBlock] using h.gc) (.slice (some ⟨g, 0, none⟩) (n + 1) cap)
  have k4 : ∀ b, b ≠ c → (w7.setCell ⟨c, 0, none⟩ (.slice (some ⟨g, 0, none⟩) (n + 1) cap)).heap[b]? = w7.heap[b]? := fun b hb => Below.heap_setCell _ _ _ _ (by simpa using hb)
  generalize w7.setCell ⟨c, 0, none⟩ (.slice (some ⟨g, 0, none⟩) (n + 1) cap) = w8 at *
  refine ⟨⟨t2.trans (r2.trans (h.grown.os.trans h.low.os)), t3.trans (r3.trans (h.grown.tape.trans h.low.tape)), t4.trans (r4.trans (h.grown.output.trans h.low.output)), by omega, fun b hb h1 h2 => ?_⟩, k1, k2, h.hat, k3⟩
  obtain ⟨h5, h6⟩ := h.block b hb h2
  exact (k4 b h1).trans ((hoth b h6).trans h5)
theorem InsF.finB {w W4 w6 : World} {c g n cap : Nat} {v : Value} {xs : List Value} (h : InsF w W4 w6 c g n cap v xs) (u0 u1 u2 u3 u4 : Value) :
    But2 c v.ownBlock w (put5o (w6.setCell ⟨c, 0, none⟩ (.slice (some ⟨g, 0, none⟩) (n + 1) cap)) g (n * 5) u0 u1 u2 u3 u4) ∧ (put5o (w6.setCell ⟨c, 0, none⟩ (.slice (some ⟨g, 0, none⟩) (n + 1) cap)) g (n * 5) u0 u1 u2 u3 u4).cell? ⟨c, 0, none⟩ = some (.slice (some ⟨g, 0, none⟩) (n + 1) cap) ∧ (put5o (w6.setCell ⟨c, 0, none⟩ (.slice (some ⟨g, 0, none⟩) (n + 1) cap)) g (n * 5) u0 u1 u2 u3 u4).frozen? ⟨c, 0, none⟩ = false ∧ (v.ownBlock = some g ∨ w.heap.size ≤ g) ∧ (put5o (w6.setCell ⟨c, 0, none⟩ (.slice (some ⟨g, 0, none⟩) (n + 1) cap)) g (n * 5) u0 u1 u2 u3 u4).ownsRow 0 25 5 (.slice (some ⟨g, 0, none⟩) (n + 1) cap) (n + 1) (xs ++ [u0, u1, u2, u3, u4]) := by
  obtain ⟨t1, t2, t3, t4⟩ := setC_rest w6 ⟨c, 0, none⟩ (.slice (some ⟨g, 0, none⟩) (n + 1) cap)
  have h3 := h.grown.size
  have h4 := h.low.size
  have k1 := World.cell?_setCell_same w6 ⟨c, 0, none⟩ (.slice (some ⟨g, 0, none⟩) (n + 1) cap) h.c6
  have k2 : (w6.setCell ⟨c, 0, none⟩ (.slice (some ⟨g, 0, none⟩) (n + 1) cap)).frozen? ⟨c, 0, none⟩ = false := by
    rw [World.frozen?_setCell]
    exact h.f6
  have k3 := ownsRow_setCell_other (a := ⟨c, 0, none⟩) h.own (by simpa [Value.ownBlock] using h.gc) (.slice (some ⟨g, 0, none⟩) (n + 1) cap)
  have k4 : ∀ b, b ≠ c → (w6.setCell ⟨c, 0, none⟩ (.slice (some ⟨g, 0, none⟩) (n + 1) cap)).heap[b]? = w6.heap[b]? := fun b hb => Below.heap_setCell _ _ _ _ (by simpa using hb)
  generalize w6.setCell ⟨c, 0, none⟩ (.slice (some ⟨g, 0, none⟩) (n + 1) cap) = w7 at *
  obtain ⟨r1, r2, r3, r4⟩ := put5o_rest w7 g (n * 5) u0 u1 u2 u3 u4
  have hcb := put5o_other w7 (Ne.symm h.gc) (n * 5) u0 u1 u2 u3 u4
  have hoth : ∀ b, b ≠ g → (put5o w7 g (n * 5) u0 u1 u2 u3 u4).heap[b]? = w7.heap[b]? := fun b hb => put5o_other w7 hb _ _ _ _ _ _
  have hrow := row_put5o k3 h.lt u0 u1 u2 u3 u4
  generalize put5o w7 g (n * 5) u0 u1 u2 u3 u4 = w8 at *
  refine ⟨⟨r2.trans (t2.trans (h.grown.os.trans h.low.os)), r3.trans (t3.trans (h.grown.tape.trans h.low.tape)), r4.trans (t4.trans (h.grown.output.trans h.low.output)), by omega, fun b hb h1 h2 => ?_⟩, (cell_of hcb 0).trans k1, (World.frozen?_of_block (a := ⟨c, 0, none⟩) hcb).trans k2, h.hat, hrow⟩
  obtain ⟨h5, h6⟩ := h.block b hb h2
  exact (hoth b h6).trans ((k4 b h1).trans h5)
def InsPost (w : World) (c : Nat) (t : T) (l : List T) (v : Value) (xs cs : List Value) (e : Ending) (w' : World) : Prop :=
  (Below w.heap.size w w' ∧ anyL (sameId (idT t)) (mkT 5 0 ByteArray.empty l []) l.length = true ∧ e = .returned (.int .i64 11)) ∨
  (Below w.heap.size w w' ∧ anyL (sameId (idT t)) (mkT 5 0 ByteArray.empty l []) l.length = false ∧ 60 ≤ l.length ∧ e = .returned (.int .i64 12)) ∨
  (But2 c v.ownBlock w w' ∧ anyL (sameId (idT t)) (mkT 5 0 ByteArray.empty l []) l.length = false ∧ l.length < 60 ∧ e = .returned (.int .i64 0) ∧ ∃ g cap, w'.cell? ⟨c, 0, none⟩ = some (.slice (some ⟨g, 0, none⟩) (l.length + 1) cap) ∧ w'.frozen? ⟨c, 0, none⟩ = false ∧ (v.ownBlock = some g ∨ w.heap.size ≤ g) ∧ w'.ownsRow 0 25 5 (.slice (some ⟨g, 0, none⟩) (l.length + 1) cap) (l.length + 1) (xs ++ cs))
end Go.Proofs.YtknakfpciccoaaaGreatDoor
/- isName, New. -/
namespace Go.Proofs.YtknakfpciccoaaaGreatDoor
open Go.RowKit Go.Maps Go.WideMaps

/-- Is a text a collection's name? -/
def nmB (z : UInt8) : Bool := decide (97 ≤ z.toNat) && decide (z.toNat ≤ 122)
def isNm (s : ByteArray) : Bool := s.data.toList.all nmB && (decide ((1 : Int) ≤ (s.size : Int)) && decide ((s.size : Int) ≤ 12))
theorem nm_bad {s : ByteArray} {k : Nat} {z : UInt8} (h : s.data.toList[k]? = some z) (hz : nmB z = false) : isNm s = false := by
  have : s.data.toList.all nmB = false := by
    rw [List.all_eq_false]
    exact ⟨z, List.mem_of_getElem? h, by rw [hz]; simp⟩
  unfold isNm
  rw [this]
  rfl
theorem nm_more {l : List UInt8} {k : Nat} {z : UInt8} (h : l[k]? = some z) (hz : nmB z = true) (ha : (l.take k).all nmB = true) : (l.take (k + 1)).all nmB = true := by
  rw [List.take_add_one, h, List.all_append, ha]
  simp [hz]
set_option maxHeartbeats 4000000 in
set_option maxRecDepth 100000 in
theorem isName_any (s : ByteArray) (w : World) (hs : s.size ≤ 140737488355328) : Calls Tryz.prog 69 #[.string s] w fun e w' => e = .returned (.bool (isNm s)) ∧ w' = w := by
  go_enter Tryz.func69, Tryz.ntmps69
  go_wp2_with fail
  go_loopg [6] (s.size) (fun g i wr => ∃ k : Nat, g = s.size - k ∧ k ≤ s.size ∧ i = .int .i64 k ∧ wr = w ∧ Hid ((s.data.toList.take k).all nmB = true))
  case atStart => exact ⟨0, rfl, Nat.zero_le _, rfl, rfl, rfl⟩
  case round =>
    obtain ⟨k, rfl, hk, rfl, rfl, HN⟩ := hrel
    by_cases hlt : k < s.size
    · obtain ⟨z, hz⟩ : ∃ z : UInt8, s[k]'hlt = z := ⟨_, rfl⟩
      have HZ : Hid (s.data.toList[k]? = some z) := by show _ = _; rw [Array.getElem?_toList]; exact get_some hlt hz
      have x1 : (k : Int) < (s.size : Int) := by omega
      have lz : z.toNat < 256 := z.toNat_lt
      by_cases h1 : z.toNat < 97
      · have y1 : (z.toNat : Int) < 97 := by omega
        have HR : Hid (isNm s = false) := nm_bad HZ.out (by unfold nmB; rw [decide_eq_false (p := 97 ≤ z.toNat) (by omega)]; rfl)
        clear h1
        go_wp2_with fail
        go_ret
        exact ⟨ret_bool (by rw [HR.out]), rfl⟩
      · have y1 : ¬ (z.toNat : Int) < 97 := by omega
        by_cases h2 : 122 < z.toNat
        · have y2 : (122 : Int) < (z.toNat : Int) := by omega
          have HR : Hid (isNm s = false) := nm_bad HZ.out (by unfold nmB; rw [decide_eq_false (p := z.toNat ≤ 122) (by omega)]; simp)
          clear h1 h2
          go_wp2_with fail
          go_ret
          exact ⟨ret_bool (by rw [HR.out]), rfl⟩
        · have y2 : ¬ (122 : Int) < (z.toNat : Int) := by omega
          have HM := hid (nm_more HZ.out (by unfold nmB; rw [decide_eq_true (p := 97 ≤ z.toNat) (by omega), decide_eq_true (p := z.toNat ≤ 122) (by omega)]; rfl) HN.out)
          clear h1 h2
          go_wp2_with fail
          go_roundg (s.size - (k + 1))
          case rel => exact ⟨k + 1, rfl, by omega, by go_num, rfl, HM⟩
          case measure => omega
    · obtain rfl : k = s.size := by omega
      have HA : Hid (s.data.toList.all nmB = true) := by
        show _ = _
        have := HN.out
        rwa [List.take_of_length_le (by rw [Array.length_toList]; exact Nat.le_refl _)] at this
      by_cases h1 : 1 ≤ s.size
      · have y1 : (1 : Int) ≤ (s.size : Int) := by omega
        have HR : Hid (isNm s = decide ((s.size : Int) ≤ 12)) := by show _ = _; unfold isNm; rw [HA.out, decide_eq_true y1]; rfl
        go_wp2_with fail
        go_ret
        exact ⟨ret_bool (by rw [HR.out]), rfl⟩
      · have y1 : ¬ (1 : Int) ≤ (s.size : Int) := by omega
        have HR : Hid (isNm s = false) := by show _ = _; unfold isNm; rw [HA.out, decide_eq_false y1]; rfl
        go_wp2_with fail
        go_ret
        exact ⟨ret_bool (by rw [HR.out]), rfl⟩
set_option maxHeartbeats 4000000 in
set_option maxRecDepth 100000 in
theorem new_any (w : World) : Calls Tryz.prog 49 #[] w fun e w' => e = .returned (.pointer (some ⟨w.heap.size + 1, 0, none⟩)) ∧ w' = (w.alloc (.map #[] 0)).alloc (.cells #[.map (some w.heap.size)] 102) := by
  have hmk : ∀ (w : World), (Instr.makeMap 100 none).run Tryz.prog w = .ok (.map (some w.heap.size)) (w.alloc (.map #[] 0)) := fun w => run_makeMap _ w
  go_enter Tryz.func49, Tryz.ntmps49
  go_wp2_with fail
  go_ret
  exact ⟨rfl, rfl⟩
end Go.Proofs.YtknakfpciccoaaaGreatDoor
/- insert. -/
namespace Go.Proofs.YtknakfpciccoaaaGreatDoor
open Go.RowKit

set_option maxHeartbeats 4000000 in
set_option maxRecDepth 100000 in
theorem insert_any (c f : Nat) (t : T) (l : List T) (v : Value) (xs : List Value) (A C : Option Addr) (B D : Nat) (w : World) (h : Col w c f l v xs) (hf : f ≤ 16) (hn : l.length ≤ 1000000) (hd : ∀ i, (h : i < l.length) → Doc l[i]) (ha : At w f (.agg #[.int .i64 (kindOf t), .int .i64 (nOf t), .string (sOf t), .slice A (nL t) B, .slice C (nK t) D]) t) (ht : Doc t) :
    Calls Tryz.prog 72 #[.pointer (some ⟨c, 0, none⟩), .agg #[.int .i64 (kindOf t), .int .i64 (nOf t), .string (sOf t), .slice A (nL t) B, .slice C (nK t) D]] w (InsPost w c t l v xs [.int .i64 (kindOf t), .int .i64 (nOf t), .string (sOf t), .slice A (nL t) B, .slice C (nK t) D]) := by
  obtain ⟨iV, hiV, zV0, zV1, zV2⟩ := info_parts infoV
  obtain ⟨hot, k, hk, hkl⟩ := ht
  have HB1 : Hid (Below w.heap.size w (w.alloc (.cells #[.int .i64 (kindOf t), .int .i64 (nOf t), .string (sOf t), .slice A (nL t) B, .slice C (nK t) D] 25))) := (Below.refl _ _).alloc (Nat.le_refl _) _
  have HBx := hid (box_new w (.int .i64 (kindOf t)) (.int .i64 (nOf t)) (.string (sOf t)) (.slice A (nL t) B) (.slice C (nK t) D))
  have HI := hid (idOf_any _ _ t k _ (ha.keep HB1.out) hk hkl)
  have Hid1 : Hid (idT t = elt t k) := by show _ = _; unfold idT; rw [hk]; rfl
  have HCol := hid h
  have HH : Hid (∀ (w' : World) (gx : Nat) (vx : Value), Below w.heap.size w w' → At w' gx vx (elt t k) → Calls Tryz.prog 118 #[.pointer (some ⟨c, 0, none⟩), vx] w' fun e w2 => e = .returned (.bool (anyL (sameId (idT t)) (mkT 5 0 ByteArray.empty l []) l.length)) ∧ Below w'.heap.size w' w2) := fun w' gx vx hb hx => by
    obtain ⟨La, Lc, rfl, hel⟩ := (h.keep hb).elems
    have hc := (h.keep hb).cell
    have e := Hid1.out
    rw [e]
    exact hasID_any c f gx (mkT 5 0 ByteArray.empty l []) (elt t k) La Lc vx w' hc (h.keep hb).low hel (by rw [nL_mk]; exact hn) hf (fun i hi => by
      rw [nL_mk] at hi
      have e : elt (mkT 5 0 ByteArray.empty l []) i = l[i] := by rw [elt_mk, List.getD_eq_getElem?_getD, List.getElem?_eq_getElem hi]; rfl
      rw [e]
      exact hd i hi) hx (hot.elt hkl)
  clear h ha hot hk hkl hd Hid1
  go_enter Tryz.func72, Tryz.ntmps72
  go_wp2_with fail
  refine HI.out.mono ?_
  rintro e w2 ⟨b2, g', A2, B2, C2, D2, hg2, rfl, ha2⟩
  have HB2 := hid (HB1.out.trans (b2.mono HB1.out.size))
  have HX2 := hid (HBx.out.stay b2)
  have HC := hid (HH.out w2 g' _ HB2.out ha2)
  clear b2 ha2 hg2 HI HH
  cases hany : anyL (sameId (idT t)) (mkT 5 0 ByteArray.empty l []) l.length with
  | true =>
    rw [hany] at HC
    have Hany := hid hany
    clear hany
    go_wp2_with fail
    refine HC.out.mono ?_
    rintro e w3 ⟨rfl, b3⟩
    have HB3 := hid (HB2.out.trans (b3.mono HB2.out.size))
    clear b3 HC
    go_wp2_with fail
    go_ret
    exact .inl ⟨HB3.out, Hany.out, rfl⟩
  | false =>
    rw [hany] at HC
    have Hany := hid hany
    clear hany
    go_wp2_with fail
    refine HC.out.mono ?_
    rintro e w3 ⟨rfl, b3⟩
    have HB3 := hid (HB2.out.trans (b3.mono HB2.out.size))
    have HX3 := hid (HX2.out.stay b3)
    have HC3 := hid (HCol.out.keep HB3.out)
    obtain ⟨La, Lc, rfl⟩ := own_shape HC3.out.row
    have hc0 := HC3.out.cell
    clear b3 HC HX2 HBx HB1 HCol
    by_cases h60 : 60 ≤ l.length
    · have e60 : (60 : Int) ≤ (l.length : Int) := by omega
      go_wp2_with fail
      go_ret
      exact .inr (.inl ⟨HB3.out, Hany.out, h60, rfl⟩)
    · have e60 : ¬ (60 : Int) ≤ (l.length : Int) := by omega
      have HA3 : Hid (Below w3.heap.size w3 (w3.alloc (.cells #[.int .i64 0, .int .i64 0, .string ⟨#[]⟩, .slice none 0 0, .slice none 0 0] 25))) := (Below.refl _ _).alloc (Nat.le_refl _) _
      have HC3a := hid (HC3.out.keep HA3.out)
      have HX3a := hid (HX3.out.stay HA3.out)
      have HC4 := hid (HC3a.out.keep (below_drew _))
      have HX4 := hid (HX3a.out.stay (below_drew _))
      have hc0a := HC3a.out.cell
      have hnn : (l.length : Int) < (l.length : Int) + 1 := by omega
      have HXl : Hid (xs.length = l.length * 5) := HC3.out.row.1
      have HGc : Hid (∀ g, ((Value.slice La l.length Lc).ownBlock = some g ∨ g = w3.heap.size + 1) → g ≠ c) := fun g hg e => by
        subst e
        rcases hg with hg | hg
        · exact HC3.out.apart hg
        · have := HC3.out.low; omega
      have r0 := HX3.out.q0
      have r1 := HX3.out.q1
      have r2 := HX3.out.q2
      have r3 := HX3.out.q3
      have r4 := HX3.out.q4
      have ra0 := HX3a.out.q0
      have ra1 := HX3a.out.q1
      have ra2 := HX3a.out.q2
      have ra3 := HX3a.out.q3
      have ra4 := HX3a.out.q4
      go_wp2_with fail
      go_region_law (refine step_append_lies _ (by rfl) _ _ _ (by rfl) 0 25 iV _ 5 80 Tryz.underlying22 hiV zV0 zV1 zV2 rfl (by omega) (.slice La l.length Lc) l.length xs (by rfl) HC4.out.row ⟨w3.heap.size, 0, none⟩ 1 1 [.int .i64 0, .int .i64 0, .string ⟨#[]⟩, .slice none 0 0, .slice none 0 0] (by rfl) (by rfl) (World.news_of_block (cs := #[.int .i64 0, .int .i64 0, .string ⟨#[]⟩, .slice none 0 0, .slice none 0 0]) (t := 25) (fr := (0, 0)) (heap_alloc_new w3 _)) (by simp [Value.oneCell']) (by omega) (by unfold maxLen; omega) (by omega) (Nat.zero_le _) (w3.heap.size + 1) (by simp) ?_; intro g cap w6 hown6 hgrow6 hat6 hlt6; have hgc : g ≠ c := HGc.out g hat6; have hcg : c ≠ g := fun e => hgc e.symm; have HB6 := hid (hgrow6.block c HC4.out.low (fun e => HC4.out.apart e.symm)); have c6 := (cell_of HB6.out 0).trans HC4.out.cell; have f6 := (World.frozen?_of_block (a := ⟨c, 0, none⟩) HB6.out).trans HC4.out.free; have y0 : w6.cell? ⟨g, l.length * 5, none⟩ = some (.int .i64 0) := new_cell hown6 HXl.out 0 (by omega) rfl; have z0 : w6.frozen? ⟨g, l.length * 5, none⟩ = false := hown6.frozenAt _; have y1 : w6.cell? ⟨g, l.length * 5 + 1, none⟩ = some (.int .i64 0) := new_cell hown6 HXl.out 1 (by omega) rfl; have z1 : w6.frozen? ⟨g, l.length * 5 + 1, none⟩ = false := hown6.frozenAt _; have y2 : w6.cell? ⟨g, l.length * 5 + 2, none⟩ = some (.string ⟨#[]⟩) := new_cell hown6 HXl.out 2 (by omega) rfl; have z2 : w6.frozen? ⟨g, l.length * 5 + 2, none⟩ = false := hown6.frozenAt _; have y3 : w6.cell? ⟨g, l.length * 5 + 3, none⟩ = some (.slice none 0 0) := new_cell hown6 HXl.out 3 (by omega) rfl; have z3 : w6.frozen? ⟨g, l.length * 5 + 3, none⟩ = false := hown6.frozenAt _; have y4 : w6.cell? ⟨g, l.length * 5 + 4, none⟩ = some (.slice none 0 0) := new_cell hown6 HXl.out 4 (by omega) rfl; have z4 : w6.frozen? ⟨g, l.length * 5 + 4, none⟩ = false := hown6.frozenAt _)
      all_goals
        have HF := hid (InsF.mk (w := w) (lt := HC3.out.row.1) hown6 hgrow6 ((HB3.out.trans (HA3.out.mono HB3.out.size)).drew) (hat6.imp id (fun e => by have := HB3.out.size; omega)) c6 f6 hgc HC3.out.apart)
        clear hown6 hgrow6 hat6 hlt6 y0 y1 y2 y3 y4 z0 z1 z2 z3 z4 c6 f6 hgc hcg HB6
        go_wp2_with fail
        go_ret
        have HFA := hid (HF.out.finA (.int .i64 (kindOf t)) (.int .i64 (nOf t)) (.string (sOf t)) (.slice A (nL t) B) (.slice C (nK t) D))
        have HFB := hid (HF.out.finB (.int .i64 (kindOf t)) (.int .i64 (nOf t)) (.string (sOf t)) (.slice A (nL t) B) (.slice C (nK t) D))
        unfold put5o at HFA HFB
        unfold InsPost
        refine .inr (.inr ⟨?_, Hany.out, by omega, rfl, g, cap, ?_⟩)
        · first | with_reducible exact HFA.out.1 | with_reducible exact HFB.out.1
        · first | with_reducible exact HFA.out.2 | with_reducible exact HFB.out.2
end Go.Proofs.YtknakfpciccoaaaGreatDoor
/- Create. -/
namespace Go.Proofs.YtknakfpciccoaaaGreatDoor
open Go.RowKit Go.Maps Go.WideMaps

theorem step_mapUpdate_own {H : Type} {P : Program} (w : World) {ops : Array Oper} {o : Oper} {a : Act} {K : Act → World → Prop} {Q : Exit → Act → World → Prop} {E : Prop} (hg : o.guard = none) (m x v : Operand) (t : TypeId) (hop : o.op = Op.mapUpdate t m x v)
    (k e : TypeId) (KK : Keyed P k) (ht : P.underlying t = some (.map k e)) (R : Value → Option (DataW H × List MemPlace)) (b n : Nat) (D : DataW H)
    (hm : a.eval m = .map (some b)) (hown : w.ownsMap P k R b n D) (hn : n < maxLen) (key val : Value) (kl : Lit) (hx : a.eval x = key) (hv : a.eval v = val) (hkey : keyOf P k key = some kl)
    (d : DataW H) (ps : List MemPlace) (hval : R val = some (d, ps))
    (hK : ∀ w', w'.ownsMap P k R b (n + 1) (D.put kl d) → w.grownBy w' (some b) → K (a.put o.dst undef) w') :
    if Region.wanted o (yielded ops a.tmps) = true then Oper.wp P o a w K Q else E := by
  have hw : Region.wanted o (yielded ops a.tmps) = true := by simp [Region.wanted, hg]
  rw [if_pos hw]
  obtain ⟨w', hrun, r1, r2⟩ := hown.update KK ht hn hkey hval
  unfold Oper.wp
  simp [execOp, hop, hm, hx, hv, hrun, Result.andThen]
  exact hK w' r1 r2
def keyN (x : ByteArray) : Lit := .string x.data.toList
def CreOk (w : World) (p m n : Nat) (D : DataW Unit) (x : ByteArray) (w' : World) : Prop :=
  ∃ c : Nat, w.heap.size ≤ c ∧ c < w'.heap.size ∧ StoAt w' p m (n + 1) (D.put (keyN x) (.lit (.int .i64 c))) ∧ w'.cell? ⟨c, 0, none⟩ = some (.slice none 0 0) ∧ w'.frozen? ⟨c, 0, none⟩ = false ∧ But2 m none w w'
theorem cre_fin {w W w' : World} {p m n : Nat} {D : DataW Unit} {x : ByteArray} {c : Nat} (hst : StoAt w p m n D) (hpm : p ≠ m) (hB : Below w.heap.size w W) (hc : w.heap.size ≤ c) (hcl : c < W.heap.size) (c0 : W.cell? ⟨c, 0, none⟩ = some (.slice none 0 0)) (f0 : W.frozen? ⟨c, 0, none⟩ = false)
    (hown : w'.ownsMap Tryz.prog 9 refR m (n + 1) (D.put (keyN x) (.lit (.int .i64 c)))) (hG : W.grownBy w' (some m)) : CreOk w p m n D x w' := by
  have hml := hst.own.lt
  have hs := hG.size
  have hs2 := hB.size
  have hp := hst.low
  have hpb : w'.heap[p]? = w.heap[p]? := (hG.block p (by omega) (by simpa using hpm)).trans (hB.block p hp)
  have hcb : w'.heap[c]? = W.heap[c]? := hG.block c hcl (by simp; omega)
  exact ⟨c, hc, by omega, ⟨(cell_of hpb 0).trans hst.cell, by omega, hown⟩, (cell_of hcb 0).trans c0, (World.frozen?_of_block (a := ⟨c, 0, none⟩) hcb).trans f0, hG.os.trans hB.os, hG.tape.trans hB.tape, hG.output.trans hB.output, by omega, fun b hb h1 _ => (hG.block b (by omega) (by simpa using h1)).trans (hB.block b hb)⟩
def CrePost (w : World) (p m n : Nat) (D : DataW Unit) (x : ByteArray) (e : Ending) (w' : World) : Prop :=
  (isNm x = false ∧ e = .returned (.int .i64 10) ∧ w' = w) ∨ (isNm x = true ∧ (∃ c : Nat, atK D x = .lit (.int .i64 c)) ∧ e = .returned (.int .i64 11) ∧ w' = w) ∨ (isNm x = true ∧ atK D x = .nil ∧ 6 ≤ Maps.size D ∧ e = .returned (.int .i64 12) ∧ w' = w) ∨
  (isNm x = true ∧ atK D x = .nil ∧ Maps.size D < 6 ∧ e = .returned (.int .i64 0) ∧ CreOk w p m n D x w')
set_option maxHeartbeats 4000000 in
set_option maxRecDepth 100000 in
theorem create_any (p m n : Nat) (D : DataW Unit) (x : ByteArray) (w : World) (hx : x.size ≤ 140737488355328) (hn : n ≤ 1000000) (hst : StoAt w p m n D) (hpm : p ≠ m) :
    Calls Tryz.prog 37 #[.pointer (some ⟨p, 0, none⟩), .string x] w (CrePost w p m n D x) := by
  have HI := hid (isName_any x w hx)
  have HSt := hid hst
  have Hpm := hid hpm
  cases hnm : isNm x with
  | false =>
    rw [hnm] at HI
    have Hn := hid hnm
    clear hnm hst hpm
    go_enter Tryz.func37, Tryz.ntmps37
    go_wp2_with fail
    refine HI.out.mono ?_
    rintro e w2 ⟨rfl, rfl⟩
    go_wp2_with fail
    go_ret
    exact .inl ⟨Hn.out, rfl, rfl⟩
  | true =>
    rw [hnm] at HI
    have Hn := hid hnm
    have c0 := hst.cell
    have hlen : ∀ ty, (Builtin.len_ #[100] ty #[.map (some m)]).run Tryz.prog w = .ok (.int .i64 (Maps.size D)) w := fun ty => hst.own.len Tryz.underlying100 ty
    clear hnm hpm
    rcases hst.look x hx with ⟨hrun, hat⟩ | ⟨c, hrun, hat⟩
    · have HAt := hid hat
      clear hat hst
      by_cases h6 : 6 ≤ Maps.size D
      · have y6 : (6 : Int) ≤ (Maps.size D : Int) := by omega
        have H6 := hid h6
        clear h6
        go_enter Tryz.func37, Tryz.ntmps37
        go_wp2_with fail
        refine HI.out.mono ?_
        rintro e w2 ⟨rfl, rfl⟩
        go_wp2_with fail
        go_ret
        exact .inr (.inr (.inl ⟨Hn.out, HAt.out, H6.out, rfl, rfl⟩))
      · have y6 : ¬ (6 : Int) ≤ (Maps.size D : Int) := by omega
        have H6 := hid (Nat.lt_of_not_le h6)
        clear h6
        go_enter Tryz.func37, Tryz.ntmps37
        go_wp2_with fail
        refine HI.out.mono ?_
        rintro e w2 ⟨rfl, rfl⟩
        go_wp2_with fail
        have HAl : Hid (Below w2.heap.size w2 (w2.alloc (.cells #[.slice none 0 0] 98))) := (Below.refl _ _).alloc (Nat.le_refl _) _
        have HSd := hid (HSt.out.keep (below_drew _))
        have HSa := hid ((HSt.out.keep HAl.out).keep (below_drew _))
        have c0a := (HSt.out.keep HAl.out).cell
        have HBd := hid (below_drew w2)
        have HBa := hid HAl.out.drew
        have hkey : keyOf Tryz.prog 9 (.string x) = some (keyN x) := keyOf_string_mk Tryz.underlying9 (by unfold maxLen; omega)
        have Hkey := hid hkey
        clear hkey hrun hlen HI
        go_region_law (go_simp; go_wp2_with (go_at_call 70; refine (clone_any x _ hx).mono ?_; rintro e w3 ⟨rfl, b3⟩; have HS3 : Hid (StoAt w3 p m n D) := (by first | exact HSd.out.keep b3 | exact HSa.out.keep b3); have HB3 : Hid (Below w2.heap.size w2 w3) := (by first | exact HBd.out.trans (b3.mono HBd.out.size) | exact HBa.out.trans (b3.mono HBa.out.size)); have c3 := HS3.out.cell; have c3a := (HS3.out.keep ((Below.refl w3.heap.size w3).alloc (Nat.le_refl _) (.cells #[.slice none 0 0] 98))).cell; obtain ⟨w6, hrun6, hown6, hG6⟩ := HS3.out.own.update law9 Tryz.underlying100 (by unfold maxLen; omega) (val := .pointer (some ⟨w2.heap.size, 0, none⟩)) (d := .lit (.int .i64 (w2.heap.size : Nat))) (ps := []) Hkey.out rfl; obtain ⟨w7, hrun7, hown7, hG7⟩ := (HS3.out.own.alloc (.cells #[.slice none 0 0] 98)).update law9 Tryz.underlying100 (by unfold maxLen; omega) (val := .pointer (some ⟨w3.heap.size, 0, none⟩)) (d := .lit (.int .i64 (w3.heap.size : Nat))) (ps := []) Hkey.out rfl))
        all_goals
          have HF : Hid (CreOk w2 p m n D x w7) := cre_fin HSt.out Hpm.out (HB3.out.alloc HB3.out.size (.cells #[.slice none 0 0] 98)) HB3.out.size (by simp) (by simp [go_sem]) (by simp [go_sem]) hown7 hG7
          have HG : Hid (w2.heap.size < w3.heap.size → w3.cell? ⟨w2.heap.size, 0, none⟩ = some (.slice none 0 0) → w3.frozen? ⟨w2.heap.size, 0, none⟩ = false → CreOk w2 p m n D x w6) := fun k1 k2 k3 => cre_fin HSt.out Hpm.out HB3.out (Nat.le_refl _) k1 k2 k3 hown6 hG6
          have HJ := hid b3
          clear hown6 hG6 hrun6 hown7 hG7 hrun7 b3 c3 c3a HS3 HB3
          go_wp2_with fail
          go_ret
          first
            | exact .inr (.inr (.inr ⟨Hn.out, HAt.out, H6.out, rfl, HF.out⟩))
            | exact .inr (.inr (.inr ⟨Hn.out, HAt.out, H6.out, rfl, HG.out (Nat.lt_of_lt_of_le (by simp) HJ.out.size) ((HJ.out.cell (p := ⟨w2.heap.size, 0, none⟩) (by simp)).trans (by simp [go_sem])) ((HJ.out.frozen (p := ⟨w2.heap.size, 0, none⟩) (by simp)).trans (by simp [go_sem]))⟩))
    · have HAt := hid hat
      clear hat hst
      go_enter Tryz.func37, Tryz.ntmps37
      go_wp2_with fail
      refine HI.out.mono ?_
      rintro e w2 ⟨rfl, rfl⟩
      go_wp2_with fail
      go_ret
      exact .inr (.inl ⟨Hn.out, ⟨c, HAt.out⟩, rfl, rfl⟩)
end Go.Proofs.YtknakfpciccoaaaGreatDoor
/- Insert. -/
namespace Go.Proofs.YtknakfpciccoaaaGreatDoor
open Go.RowKit Go.Maps Go.WideMaps

/-- Why a text is no document to insert. -/
def inErr (s : ByteArray) : Option Int := if eJ s ≠ 0 then some (eJ s) else if isDoc (tJ s) = false then some 7 else if tooBig (tJ s) = true then some 15 else none
def InPost (w : World) (x s : ByteArray) (Dm : DataW Unit) (lf : Nat → List T) (vf : Nat → Value) (xf : Nat → List Value) (e : Ending) (w' : World) : Prop :=
  (Below w.heap.size w w' ∧ ∃ er, inErr s = some er ∧ e = .returned (.int .i64 er)) ∨
  (Below w.heap.size w w' ∧ inErr s = none ∧ atK Dm x = .nil ∧ e = .returned (.int .i64 10)) ∨
  (inErr s = none ∧ ∃ c : Nat, atK Dm x = .lit (.int .i64 c) ∧ ∃ w1 A B C D, Below w.heap.size w w1 ∧ AtP (newB w w1) w1 13 (.agg #[.int .i64 (kindOf (tJ s)), .int .i64 (nOf (tJ s)), .string (sOf (tJ s)), .slice A (nL (tJ s)) B, .slice C (nK (tJ s)) D]) (tJ s) ∧ InsPost w1 c (tJ s) (lf c) (vf c) (xf c) [.int .i64 (kindOf (tJ s)), .int .i64 (nOf (tJ s)), .string (sOf (tJ s)), .slice A (nL (tJ s)) B, .slice C (nK (tJ s)) D] e w')
theorem InsPost.shape {w : World} {c : Nat} {t : T} {l : List T} {v : Value} {xs cs : List Value} {e : Ending} {w' : World} (h : InsPost w c t l v xs cs e w') : ∃ er : Int, e = .returned (.int .i64 er) := by
  rcases h with ⟨_, _, rfl⟩ | ⟨_, _, _, rfl⟩ | ⟨_, _, _, rfl, _⟩ <;> exact ⟨_, rfl⟩
set_option maxHeartbeats 4000000 in
set_option maxRecDepth 100000 in
theorem insertS_any {Tb : World → Prop} (hA : StoreSaid Tb) (p m n : Nat) (Dm : DataW Unit) (lf : Nat → List T) (vf : Nat → Value) (xf : Nat → List Value) (x s : ByteArray) (w : World) (hs : s.size ≤ 140737488355328) (hx : x.size ≤ 140737488355328) (hst : StoAt w p m n Dm)
    (hc : ∀ c : Nat, atK Dm x = .lit (.int .i64 c) → Col w c 13 (lf c) (vf c) (xf c) ∧ (lf c).length ≤ 1000000 ∧ ∀ i, (h : i < (lf c).length) → Doc (lf c)[i]) (hT : Tb w) :
    Calls Tryz.prog 38 #[.pointer (some ⟨p, 0, none⟩), .string x, .string s] w (InPost w x s Dm lf vf xf) := by
  have HD := hid (readDoc_any hA.valid hA.dec hA.int hA.lies s w hs hT)
  have Hc := hid hc
  have HSt := hid hst
  clear hT hc hst hA
  go_enter Tryz.func38, Tryz.ntmps38
  go_wp2_with fail
  refine HD.out.mono ?_
  rintro e w1 ⟨b1, ⟨h1, rfl⟩ | ⟨h1, h2, rfl⟩ | ⟨h1, h2, h3, rfl⟩ | ⟨h1, h2, h3, A, B, C, D, rfl, ha⟩⟩
  · have ez : (eJ s == 0) = false := by simpa using h1
    have HE : Hid (inErr s = some (eJ s)) := by show _ = _; unfold inErr; rw [if_pos h1]
    have HB := hid (b1.alloc b1.size (.cells #[.int .i64 0, .int .i64 0, .string ⟨#[]⟩, .slice none 0 0, .slice none 0 0] 25))
    unfold zeroV
    clear h1 b1 HD
    go_wp2_with fail
    go_ret
    exact .inl ⟨HB.out, _, HE.out, rfl⟩
  · have HE : Hid (inErr s = some 7) := by show _ = _; unfold inErr; rw [if_neg (by simpa using h1), if_pos h2]
    have HB := hid (b1.alloc b1.size (.cells #[.int .i64 0, .int .i64 0, .string ⟨#[]⟩, .slice none 0 0, .slice none 0 0] 25))
    unfold zeroV
    clear h1 h2 b1 HD
    go_wp2_with fail
    go_ret
    exact .inl ⟨HB.out, _, HE.out, rfl⟩
  · have HE : Hid (inErr s = some 15) := by show _ = _; unfold inErr; rw [if_neg (by simpa using h1), if_neg (by rw [h2]; simp), if_pos h3]
    have HB := hid (b1.alloc b1.size (.cells #[.int .i64 0, .int .i64 0, .string ⟨#[]⟩, .slice none 0 0, .slice none 0 0] 25))
    unfold zeroV
    clear h1 h2 h3 b1 HD
    go_wp2_with fail
    go_ret
    exact .inl ⟨HB.out, _, HE.out, rfl⟩
  · have HE : Hid (inErr s = none) := by show _ = _; unfold inErr; rw [if_neg (by simpa using h1), if_neg (by rw [h2]; simp), if_neg (by rw [h3]; simp)]
    have HDoc := hid (isDoc_doc (parsed_okA h1) h2)
    have HAl : Hid (Below w1.heap.size w1 (w1.alloc (.cells #[.int .i64 (kindOf (tJ s)), .int .i64 (nOf (tJ s)), .string (sOf (tJ s)), .slice A (nL (tJ s)) B, .slice C (nK (tJ s)) D] 25))) := (Below.refl _ _).alloc (Nat.le_refl _) _
    have HB := hid (b1.trans (HAl.out.mono b1.size))
    have HAt : Hid (AtP (newB w (w1.alloc (.cells #[.int .i64 (kindOf (tJ s)), .int .i64 (nOf (tJ s)), .string (sOf (tJ s)), .slice A (nL (tJ s)) B, .slice C (nK (tJ s)) D] 25))) (w1.alloc (.cells #[.int .i64 (kindOf (tJ s)), .int .i64 (nOf (tJ s)), .string (sOf (tJ s)), .slice A (nL (tJ s)) B, .slice C (nK (tJ s)) D] 25)) 13 (.agg #[.int .i64 (kindOf (tJ s)), .int .i64 (nOf (tJ s)), .string (sOf (tJ s)), .slice A (nL (tJ s)) B, .slice C (nK (tJ s)) D]) (tJ s)) := ha.move HAl.out.size (fun b hb hp => ⟨⟨hp.1, Nat.lt_of_lt_of_le hb HAl.out.size⟩, HAl.out.block b hb⟩)
    have HS2 := hid (HSt.out.keep HB.out)
    have c0 := HS2.out.cell
    clear h1 h2 h3 b1 HD ha
    rcases HS2.out.look x hx with ⟨hrun, hat⟩ | ⟨c, hrun, hat⟩
    · have HN := hid hat
      clear hat
      go_wp2_with fail
      go_ret
      exact .inr (.inl ⟨HB.out, HE.out, HN.out, rfl⟩)
    · obtain ⟨hcol, hn, hd⟩ := Hc.out c hat
      have HN := hid hat
      have HIn := hid (insert_any c 13 (tJ s) (lf c) (vf c) (xf c) A C B D _ (hcol.keep HB.out) (by omega) hn hd HAt.out.at HDoc.out)
      clear hat hcol hn hd Hc
      go_wp2_with fail
      refine HIn.out.mono ?_
      intro e w2 hi
      obtain ⟨er, rfl⟩ := hi.shape
      have HI2 := hid hi
      clear hi HIn hrun
      go_wp2_with fail
      go_ret
      exact .inr (.inr ⟨HE.out, c, HN.out, _, A, B, C, D, HB.out, HAt.out, HI2.out⟩)
end Go.Proofs.YtknakfpciccoaaaGreatDoor
