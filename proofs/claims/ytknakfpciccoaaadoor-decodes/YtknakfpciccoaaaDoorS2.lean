/- The walks of mark, Plain and markName. -/
import Derived.Test.YtknakfpciccoaaaDoorQ7
import Derived.Laws.IdiomStrings
import Derived.Laws.Concat
namespace Go.Proofs.YtknakfpciccoaaaDoor
open Go.RowKit

set_option maxHeartbeats 1000000 in
set_option maxRecDepth 100000 in
theorem markV_any (n : Nat) (w : World) (hn : n ≤ 1000000000) :
    Calls Tryd.prog 29 #[.int .i64 n] w fun e w' => e = .returned (.agg #[.int .i64 (-(n : Int)), .int .i64 0, .string mark3, .slice none 0 0, .slice none 0 0]) ∧ Below w.heap.size w w' := by
  go_enter Tryd.func29, Tryd.ntmps29
  go_wp2_with fail
  refine bodyPost_ret (v := .agg #[.int .i64 (-(n : Int)), .int .i64 0, .string mark3, .slice none 0 0, .slice none 0 0]) (by simp [results, Tryd.results29, go_sem, mark3]) rfl ⟨rfl, (Below.refl _ _).alloc (Nat.le_refl _) _⟩
def dig (r : Nat) : ByteArray := ⟨#[UInt8.ofNat (48 + r % 10)]⟩
def digs : Nat → Nat → ByteArray → ByteArray
  | 0, _, out => out
  | f + 1, r, out => if r = 0 ∧ out.size ≠ 0 then out else digs f (r / 10) (dig r ++ out)
def plainB (n : Nat) : ByteArray := digs 11 n ByteArray.empty
def nameB (n : Nat) : ByteArray := mark3 ++ plainB n
theorem conv_dig (w : World) (x : Nat) (v : Int) (hv : v = (48 + x % 10 : Nat)) : (convert 60 9 (.slice (some ⟨w.heap.size, 0, none⟩) 1 1)).run Tryd.prog (w.alloc (.cells #[.int .u8 v] 5)) = .ok (.string (dig x)) (w.alloc (.cells #[.int .u8 v] 5)) := by
  refine run_convert_bytes_back (P := Tryd.prog) (w.alloc (.cells #[.int .u8 v] 5)) 60 9 5 ⟨w.heap.size, 0, none⟩ 1 [UInt8.ofNat (48 + x % 10)] Tryd.underlying60 Tryd.underlying5 Tryd.underlying9 (fun j hj => ?_)
  have hj0 : j = 0 := by simp at hj; omega
  subst hj0
  have hx : (UInt8.ofNat (48 + x % 10)).toNat = 48 + x % 10 := by
    rw [UInt8.toNat_ofNat']
    omega
  have e : ((⟨w.heap.size, 0, none⟩ : Addr).add 0) = ⟨w.heap.size, 0, none⟩ := by simp [Addr.add]
  rw [e]
  simp [go_sem, hv]
  omega
set_option maxHeartbeats 1000000 in
set_option maxRecDepth 100000 in
theorem plain_any (n : Nat) (w : World) (hn : n ≤ 1000000000) :
    Calls Tryd.prog 54 #[.int .i64 n] w fun e w' => e = .returned (.string (plainB n)) ∧ (plainB n).size ≤ 11 ∧ Below w.heap.size w w' := by
  go_enter Tryd.func54, Tryd.ntmps54
  go_wp2_with fail
  go_loopg [3, 4] 11 (fun g o r wr => ∃ (x : Nat) (out : ByteArray), o = .string out ∧ r = .int .i64 x ∧ x < 10 ^ g ∧ x ≤ 1000000000 ∧ (out.size = 0 → 1 ≤ g) ∧ out.size + g ≤ 11 ∧ Hid (digs g x out = plainB n) ∧ Hid (Below w.heap.size w wr))
  case atStart => exact ⟨n, ByteArray.empty, rfl, rfl, by omega, hn, by omega, by simp, rfl, Below.refl _ _⟩
  case round =>
    obtain ⟨x, out, rfl, rfl, hx, hx2, ho, hf, HD, HB⟩ := hrel
    by_cases hend : x = 0 ∧ out.size ≠ 0
    · obtain ⟨h0, h1⟩ := hend
      subst h0
      have hne := nonempty_of h1
      have HR : Hid (out = plainB n) := by
        have := HD.out
        cases gk with
        | zero => exact this
        | succ f => unfold digs at this; rw [if_pos ⟨rfl, h1⟩] at this; exact this
      go_wp2_with fail
      go_ret
      exact ⟨by rw [HR.out]; rfl, by rw [← HR.out]; omega, HB.out⟩
    · obtain ⟨f', rfl⟩ : ∃ f', gk = f' + 1 := by
        cases gk with
        | zero =>
          have : x = 0 := by simpa using hx
          exact absurd ⟨this, fun h => by have := ho h; omega⟩ hend
        | succ f => exact ⟨f, rfl⟩
      have HD2 : Hid (digs f' (x / 10) (dig x ++ out) = plainB n) := by
        have := HD.out
        unfold digs at this
        rw [if_neg hend] at this
        exact this
      have hsd : (dig x ++ out).size = out.size + 1 := by rw [ByteArray.size_append]; show 1 + out.size = _; omega
      have hx3 : x / 10 < 10 ^ f' := by rw [Nat.pow_succ] at hx; omega
      have hend2 : x ≠ 0 ∨ out.size = 0 := by
        by_cases e : x = 0
        · right
          by_cases e2 : out.size = 0
          · exact e2
          · exact absurd ⟨e, e2⟩ hend
        · exact .inl e
      clear hx hend
      by_cases e : x = 0
      · have e0 : out.size = 0 := by omega
        have ee := empty_of e0
        subst ee
        subst e
        have hcv := conv_dig wr 0 48 rfl
        have hadd := run_string_add_sum (P := Tryd.prog) (w := wr.alloc (.cells #[.int .u8 48] 5)) (dig 0) ⟨#[]⟩ (by show 1 + 0 ≤ _; omega)
        have HB2 := hid (HB.out.alloc HB.out.size (.cells #[.int .u8 48] 5))
        go_wp2_with fail
        go_roundg f'
        case rel => exact ⟨0, dig 0 ++ ⟨#[]⟩, rfl, rfl, by simpa using hx3, by omega, by omega, by omega, HD2, HB2⟩
        case measure => omega
      · have ex : ¬ ((x : Int) = 0) := by omega
        have hcv := conv_dig wr x (48 + (x : Int) % 10) (by omega)
        have hadd := run_string_add_sum (P := Tryd.prog) (w := wr.alloc (.cells #[.int .u8 (48 + (x : Int) % 10)] 5)) (dig x) out (by show 1 + out.size ≤ _; omega)
        have HB2 := hid (HB.out.alloc HB.out.size (.cells #[.int .u8 (48 + (x : Int) % 10)] 5))
        go_wp2_with fail
        go_roundg f'
        case rel => exact ⟨x / 10, dig x ++ out, rfl, by go_num, hx3, by omega, by omega, by omega, HD2, HB2⟩
        case measure => omega
set_option maxHeartbeats 1000000 in
set_option maxRecDepth 100000 in
theorem markName_any (n : Nat) (w : World) (hn : n ≤ 1000000000) :
    Calls Tryd.prog 30 #[.int .i64 n] w fun e w' => e = .returned (.string (nameB n)) ∧ Below w.heap.size w w' := by
  have HP := hid (plain_any n w hn)
  go_enter Tryd.func30, Tryd.ntmps30
  go_wp2_with fail
  refine HP.out.mono ?_
  rintro e w1 ⟨rfl, hs, hb⟩
  have hadd := run_string_add_sum (P := Tryd.prog) (w := w1) ⟨#[111, 119, 110]⟩ (plainB n) (by show 3 + _ ≤ _; omega)
  have HB := hid hb
  clear hb
  go_wp2_with fail
  go_ret
  exact ⟨rfl, HB.out⟩
end Go.Proofs.YtknakfpciccoaaaDoor
/- The walk of lists: all lists of a value. -/
namespace Go.Proofs.YtknakfpciccoaaaDoor
open Go.RowKit

theorem infoL : (Tryd.prog.info? 23).map (fun i => (i.zero, i.size, i.bytes)) = some (some (.slice none 0 0), 1, 24) := by kernel_rfl
theorem infoN : (Tryd.prog.info? 24).map (fun i => (i.zero, i.size, i.bytes)) = some (some (.slice none 0 0), 1, 24) := by kernel_rfl
/-- The owner's box. -/
structure OwnB (b : Nat) (vs ns : Value) (n : Int) (w : World) : Prop where
  q0 : w.cell? ⟨b, 0, none⟩ = some vs
  q1 : w.cell? ⟨b, 1, none⟩ = some ns
  q2 : w.cell? ⟨b, 2, none⟩ = some (.int .i64 n)
  f0 : w.frozen? ⟨b, 0, none⟩ = false
  f1 : w.frozen? ⟨b, 1, none⟩ = false
  lt : b < w.heap.size
theorem OwnB.move {b : Nat} {vs ns : Value} {n : Int} {w w' : World} (h : OwnB b vs ns n w) (hs : w.heap.size ≤ w'.heap.size) (hb : w'.heap[b]? = w.heap[b]?) : OwnB b vs ns n w' :=
  ⟨(cell_of hb _).trans h.q0, (cell_of hb _).trans h.q1, (cell_of hb _).trans h.q2, (World.frozen?_of_block (w := w) (a := ⟨b, _, none⟩) hb).trans h.f0, (World.frozen?_of_block (w := w) (a := ⟨b, _, none⟩) hb).trans h.f1, Nat.lt_of_lt_of_le h.lt hs⟩
theorem OwnB.put0 {b : Nat} {vs ns : Value} {n : Int} {w : World} (h : OwnB b vs ns n w) (u : Value) : OwnB b u ns n (w.setCell ⟨b, 0, none⟩ u) := by
  refine ⟨World.cell?_setCell_same _ _ _ h.q0, ?_, ?_, ?_, ?_, by simp [World.setCell]; exact h.lt⟩
  · rw [set_other (by omega)]; exact h.q1
  · rw [set_other (by omega)]; exact h.q2
  · rw [World.frozen?_setCell]; exact h.f0
  · rw [World.frozen?_setCell]; exact h.f1
theorem OwnB.put1 {b : Nat} {vs ns : Value} {n : Int} {w : World} (h : OwnB b vs ns n w) (u : Value) : OwnB b vs u n (w.setCell ⟨b, 1, none⟩ u) := by
  refine ⟨?_, World.cell?_setCell_same _ _ _ h.q1, ?_, ?_, ?_, by simp [World.setCell]; exact h.lt⟩
  · rw [set_other (by omega)]; exact h.q0
  · rw [set_other (by omega)]; exact h.q2
  · rw [World.frozen?_setCell]; exact h.f0
  · rw [World.frozen?_setCell]; exact h.f1
/-- The owner's box and its two rows. -/
structure OwnR (b : Nat) (vs ns : Value) (n : Int) (E : List Ent) (w : World) : Prop where
  box : OwnB b vs ns n w
  rowL : w.ownsRow (b + 1) 23 1 vs E.length (E.map (·.l))
  rowK : w.ownsRow (b + 1) 24 1 ns E.length (E.map (·.k))
structure Keep3 (b : Nat) (vs ns : Value) (w w' : World) : Prop where
  os : w'.os = w.os
  tape : w'.tape = w.tape
  output : w'.output = w.output
  size : w.heap.size ≤ w'.heap.size
  block : ∀ k, k < w.heap.size → k ≠ b → some k ≠ vs.ownBlock → some k ≠ ns.ownBlock → w'.heap[k]? = w.heap[k]?
theorem Keep3.refl (b : Nat) (vs ns : Value) (w : World) : Keep3 b vs ns w w := ⟨rfl, rfl, rfl, Nat.le_refl _, fun _ _ _ _ _ => rfl⟩
theorem Keep3.of {b : Nat} {vs ns : Value} {w w' : World} (h : Below w.heap.size w w') : Keep3 b vs ns w w' := ⟨h.os, h.tape, h.output, h.size, fun k hk _ _ _ => h.block k hk⟩
theorem newOr_ne {w : World} {v v' : Value} (h : NewOr w v v') {k : Nat} (hk : k < w.heap.size) (hv : some k ≠ v.ownBlock) : some k ≠ v'.ownBlock := by
  intro e
  rcases h with h | h
  · exact hv (e.trans h)
  · have := h k e.symm
    omega
theorem Keep3.trans {b : Nat} {vs ns vs1 ns1 : Value} {w w1 w2 : World} (h : Keep3 b vs ns w w1) (k : Keep3 b vs1 ns1 w1 w2) (hv : NewOr w vs vs1) (hn : NewOr w ns ns1) : Keep3 b vs ns w w2 :=
  ⟨k.os.trans h.os, k.tape.trans h.tape, k.output.trans h.output, Nat.le_trans h.size k.size, fun i hi h1 h2 h3 => (k.block i (Nat.lt_of_lt_of_le hi h.size) h1 (newOr_ne hv hi h2) (newOr_ne hn hi h3)).trans (h.block i hi h1 h2 h3)⟩
theorem NewOr.refl (w : World) (v : Value) : NewOr w v v := .inl rfl
theorem NewOr.trans {w w1 : World} {v v1 v2 : Value} (h : NewOr w v v1) (k : NewOr w1 v1 v2) (hs : w.heap.size ≤ w1.heap.size) : NewOr w v v2 := by
  rcases k with k | k
  · rcases h with h | h
    · exact .inl (k.trans h)
    · exact .inr fun g e => h g (k ▸ e)
  · exact .inr fun g e => Nat.le_trans hs (k g e)
theorem Keep3.below {b : Nat} {vs ns : Value} {n : Int} {E : List Ent} {w w' : World} (h : Keep3 b vs ns w w') (hR : OwnR b vs ns n E w) : Below b w w' := by
  refine ⟨h.os, h.tape, h.output, h.size, fun k hk => h.block k (by have := hR.box.lt; omega) (by omega) (fun e => ?_) (fun e => ?_)⟩
  · have := (hR.rowL.lt k e.symm).1; omega
  · have := (hR.rowK.lt k e.symm).1; omega
theorem OwnR.keep {b : Nat} {vs ns : Value} {n : Int} {E : List Ent} {w w' : World} (h : OwnR b vs ns n E w) (hb : Below w.heap.size w w') : OwnR b vs ns n E w' :=
  ⟨h.box.move hb.size (hb.block _ h.box.lt), own_move h.rowL fun g e => hb.block g (h.rowL.lt g e).2, own_move h.rowK fun g e => hb.block g (h.rowK.lt g e).2⟩
theorem own_type {w : World} {lo lo' : Nat} {e e' : TypeId} {size size' n n' : Nat} {v v' : Value} {xs ys : List Value} (h : w.ownsRow lo e size v n xs) (h' : w.ownsRow lo' e' size' v' n' ys) (he : e ≠ e') {g : Nat} (hg : v.ownBlock = some g) (hg' : v'.ownBlock = some g) : False := by
  rcases h.2 with ⟨rfl, _⟩ | ⟨a, cap, cur, rfl, _, hga, _⟩
  · cases hg
  · rcases h'.2 with ⟨rfl, _⟩ | ⟨b, cap', cur', rfl, _, hgb, _⟩
    · cases hg'
    · cases hg
      cases hg'
      rw [hga] at hgb
      simp only [Option.some.injEq, Obj.cells.injEq] at hgb
      exact he hgb.2.1
theorem own_block {w : World} {lo : Nat} {e e' : TypeId} {size n : Nat} {v : Value} {xs : List Value} {cs : Array Value} {c : Nat} (h : w.ownsRow lo e size v n xs) (hc : w.heap[c]? = some (.cells cs e' (0, 0))) (he : e ≠ e') : some c ≠ v.ownBlock := by
  intro hg
  rcases h.2 with ⟨rfl, _⟩ | ⟨a, cap, cur, rfl, _, hga, _⟩
  · cases hg
  · cases hg
    rw [hga] at hc
    simp only [Option.some.injEq, Obj.cells.injEq] at hc
    exact he hc.2.1
/-- One more list of values. -/
theorem OwnR.addL {b : Nat} {vs ns : Value} {n : Int} {E : List Ent} {w w2 : World} {g cap : Nat} (h : OwnR b vs ns n E w) (o : Obj) (l : Value)
    (hO : w2.ownsRow (b + 1) 23 1 (.slice (some ⟨g, 0, none⟩) (E.length + 1) cap) (E.length + 1) (E.map (·.l) ++ [l])) (hG : (w.alloc o).grownBy w2 vs.ownBlock) (hat : vs.ownBlock = some g ∨ g = w.heap.size + 1) :
    OwnB b (.slice (some ⟨g, 0, none⟩) (E.length + 1) cap) ns n (w2.setCell ⟨b, 0, none⟩ (.slice (some ⟨g, 0, none⟩) (E.length + 1) cap)) ∧ (w2.setCell ⟨b, 0, none⟩ (.slice (some ⟨g, 0, none⟩) (E.length + 1) cap)).ownsRow (b + 1) 23 1 (.slice (some ⟨g, 0, none⟩) (E.length + 1) cap) (E.length + 1) (E.map (·.l) ++ [l]) ∧
      (w2.setCell ⟨b, 0, none⟩ (.slice (some ⟨g, 0, none⟩) (E.length + 1) cap)).ownsRow (b + 1) 24 1 ns E.length (E.map (·.k)) ∧ Keep3 b vs ns w (w2.setCell ⟨b, 0, none⟩ (.slice (some ⟨g, 0, none⟩) (E.length + 1) cap)) ∧ NewOr w vs (.slice (some ⟨g, 0, none⟩) (E.length + 1) cap) := by
  have hb : Below w.heap.size w (w.alloc o) := (Below.refl _ _).alloc (Nat.le_refl _) _
  have h' := h.keep hb
  have hset : ∀ k, k ≠ b → (w2.setCell ⟨b, 0, none⟩ (.slice (some ⟨g, 0, none⟩) (E.length + 1) cap)).heap[k]? = w2.heap[k]? := fun k hk => Below.heap_setCell _ _ _ _ (by simpa using hk)
  have hbne : some b ≠ vs.ownBlock := fun e => by have := (h.rowL.lt b e.symm).1; omega
  have hsz : (w2.setCell ⟨b, 0, none⟩ (.slice (some ⟨g, 0, none⟩) (E.length + 1) cap)).heap.size = w2.heap.size := by simp [World.setCell]
  refine ⟨(h'.box.move hG.size (hG.block _ h'.box.lt hbne)).put0 _, own_move hO fun k e => hset k ?_, own_move (own_move h'.rowK fun k e => hG.block k (h'.rowK.lt k e).2 fun e2 => ?_) fun k e => hset k ?_, ⟨hG.os.trans hb.os, hG.tape.trans hb.tape, hG.output.trans hb.output, by have := hG.size; have := hb.size; omega, fun k hk h1 h2 _ => ?_⟩, ?_⟩
  · have := (hO.lt k e).1; omega
  · exact own_type h'.rowL h'.rowK (by decide) e2.symm e
  · have := (h'.rowK.lt k e).1; omega
  · exact (hset k h1).trans ((hG.block k (Nat.lt_of_lt_of_le hk hb.size) h2).trans (hb.block k hk))
  · rcases hat with hat | hat
    · exact .inl hat.symm
    · refine .inr fun g' e => ?_
      have : g = g' := by simpa [Value.ownBlock] using e
      omega
theorem OwnR.addK {b : Nat} {vs ns : Value} {n : Int} {A E : List Ent} {w w2 : World} {g cap : Nat} (hB : OwnB b vs ns n w) (hL : w.ownsRow (b + 1) 23 1 vs (A.length) (A.map (·.l))) (hK : w.ownsRow (b + 1) 24 1 ns E.length (E.map (·.k))) (o : Obj) (k : Value)
    (hO : w2.ownsRow (b + 1) 24 1 (.slice (some ⟨g, 0, none⟩) (E.length + 1) cap) (E.length + 1) (E.map (·.k) ++ [k])) (hG : (w.alloc o).grownBy w2 ns.ownBlock) (hat : ns.ownBlock = some g ∨ g = w.heap.size + 1) :
    OwnB b vs (.slice (some ⟨g, 0, none⟩) (E.length + 1) cap) n (w2.setCell ⟨b, 1, none⟩ (.slice (some ⟨g, 0, none⟩) (E.length + 1) cap)) ∧ (w2.setCell ⟨b, 1, none⟩ (.slice (some ⟨g, 0, none⟩) (E.length + 1) cap)).ownsRow (b + 1) 24 1 (.slice (some ⟨g, 0, none⟩) (E.length + 1) cap) (E.length + 1) (E.map (·.k) ++ [k]) ∧
      (w2.setCell ⟨b, 1, none⟩ (.slice (some ⟨g, 0, none⟩) (E.length + 1) cap)).ownsRow (b + 1) 23 1 vs A.length (A.map (·.l)) ∧ Keep3 b vs ns w (w2.setCell ⟨b, 1, none⟩ (.slice (some ⟨g, 0, none⟩) (E.length + 1) cap)) ∧ NewOr w ns (.slice (some ⟨g, 0, none⟩) (E.length + 1) cap) := by
  have hb : Below w.heap.size w (w.alloc o) := (Below.refl _ _).alloc (Nat.le_refl _) _
  have hB' := hB.move hb.size (hb.block _ hB.lt)
  have hL' := own_move hL fun k e => hb.block k (hL.lt k e).2
  have hK' := own_move hK fun k e => hb.block k (hK.lt k e).2
  have hset : ∀ k, k ≠ b → (w2.setCell ⟨b, 1, none⟩ (.slice (some ⟨g, 0, none⟩) (E.length + 1) cap)).heap[k]? = w2.heap[k]? := fun k hk => Below.heap_setCell _ _ _ _ (by simpa using hk)
  have hbne : some b ≠ ns.ownBlock := fun e => by have := (hK.lt b e.symm).1; omega
  have hsz : (w2.setCell ⟨b, 1, none⟩ (.slice (some ⟨g, 0, none⟩) (E.length + 1) cap)).heap.size = w2.heap.size := by simp [World.setCell]
  refine ⟨(hB'.move hG.size (hG.block _ hB'.lt hbne)).put1 _, own_move hO fun k e => hset k ?_, own_move (own_move hL' fun k e => hG.block k (hL'.lt k e).2 fun e2 => ?_) fun k e => hset k ?_, ⟨hG.os.trans hb.os, hG.tape.trans hb.tape, hG.output.trans hb.output, by have := hG.size; have := hb.size; omega, fun k hk h1 _ h2 => ?_⟩, ?_⟩
  · have := (hO.lt k e).1; omega
  · exact own_type hL' hK' (by decide) e e2.symm
  · have := (hL'.lt k e).1; omega
  · exact (hset k h1).trans ((hG.block k (Nat.lt_of_lt_of_le hk hb.size) h2).trans (hb.block k hk))
  · rcases hat with hat | hat
    · exact .inl hat.symm
    · refine .inr fun g' e => ?_
      have : g = g' := by simpa [Value.ownBlock] using e
      omega
end Go.Proofs.YtknakfpciccoaaaDoor
