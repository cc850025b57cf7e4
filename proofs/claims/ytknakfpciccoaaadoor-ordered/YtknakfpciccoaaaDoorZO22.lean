import Derived.Test.YtknakfpciccoaaaDoorZO21
import Derived.Laws.IdiomStrings
import Derived.Laws.Concat
import Derived.Test.YtknakfpciccoaaaDoorZO17
/- The walks of mark, Plain and markName. -/
namespace Go.Proofs.YtknakfpciccoaaaDoor
open Go.RowKit

set_option maxHeartbeats 1000000 in
set_option maxRecDepth 100000 in
theorem markV_any (n : Nat) (w : World) (hn : n ≤ 1000000000) :
    Calls Tryd.prog 29 #[.int .i64 n] w fun e w' => e = .returned (.agg #[.int .i64 (-(n : Int)), .int .i64 0, .string mark3, .slice none 0 0, .slice none 0 0]) ∧ Below w.heap.size w w' := by
  go_enter Tryd.func29, Tryd.ntmps29
  go_wp2_with fail
  refine bodyPost_ret (v := .agg #[.int .i64 (-(n : Int)), .int .i64 0, .string mark3, .slice none 0 0, .slice none 0 0]) (by simp [results, Tryd.results29, go_sem, mark3]) rfl ⟨rfl, (Below.refl _ _).alloc (Nat.le_refl _) _⟩
def dig (r : Nat) : ByteArray := ⟨#[UInt8.ofNat (48 + r % 10)]⟩
def digs : Nat → Nat → ByteArray → ByteArray
  | 0, _, out => out
  | f + 1, r, out => if r = 0 ∧ out.size ≠ 0 then out else digs f (r / 10) (dig r ++ out)
def plainB (n : Nat) : ByteArray := digs 11 n ByteArray.empty
def nameB (n : Nat) : ByteArray := mark3 ++ plainB n
theorem conv_dig (w : World) (x : Nat) (v : Int) (hv : v = (48 + x % 10 : Nat)) : (convert 60 9 (.slice (some ⟨w.heap.size, 0, none⟩) 1 1)).run Tryd.prog (w.alloc (.cells #[.int .u8 v] 5)) = .ok (.string (dig x)) (w.alloc (.cells #[.int .u8 v] 5)) := by
  refine run_convert_bytes_back (P := Tryd.prog) (w.alloc (.cells #[.int .u8 v] 5)) 60 9 5 ⟨w.heap.size, 0, none⟩ 1 [UInt8.ofNat (48 + x % 10)] Tryd.underlying60 Tryd.underlying5 Tryd.underlying9 (fun j hj => ?_)
  have hj0 : j = 0 := by simp at hj; omega
  subst hj0
  have hx : (UInt8.ofNat (48 + x % 10)).toNat = 48 + x % 10 := by
    rw [UInt8.toNat_ofNat']
    omega
  have e : ((⟨w.heap.size, 0, none⟩ : Addr).add 0) = ⟨w.heap.size, 0, none⟩ := by simp [Addr.add]
  rw [e]
  simp [go_sem, hv]
  omega
set_option maxHeartbeats 1000000 in
set_option maxRecDepth 100000 in
theorem plain_any (n : Nat) (w : World) (hn : n ≤ 1000000000) :
    Calls Tryd.prog 54 #[.int .i64 n] w fun e w' => e = .returned (.string (plainB n)) ∧ (plainB n).size ≤ 11 ∧ Below w.heap.size w w' := by
  go_enter Tryd.func54, Tryd.ntmps54
  go_wp2_with fail
  go_loopg [3, 4] 11 (fun g o r wr => ∃ (x : Nat) (out : ByteArray), o = .string out ∧ r = .int .i64 x ∧ x < 10 ^ g ∧ x ≤ 1000000000 ∧ (out.size = 0 → 1 ≤ g) ∧ out.size + g ≤ 11 ∧ Hid (digs g x out = plainB n) ∧ Hid (Below w.heap.size w wr))
  case atStart => exact ⟨n, ByteArray.empty, rfl, rfl, by omega, hn, by omega, by simp, rfl, Below.refl _ _⟩
  case round =>
    obtain ⟨x, out, rfl, rfl, hx, hx2, ho, hf, HD, HB⟩ := hrel
    by_cases hend : x = 0 ∧ out.size ≠ 0
    · obtain ⟨h0, h1⟩ := hend
      subst h0
      have hne := nonempty_of h1
      have HR : Hid (out = plainB n) := by
        have := HD.out
        cases gk with
        | zero => exact this
        | succ f => unfold digs at this; rw [if_pos ⟨rfl, h1⟩] at this; exact this
      go_wp2_with fail
      go_ret
      exact ⟨by rw [HR.out]; rfl, by rw [← HR.out]; omega, HB.out⟩
    · obtain ⟨f', rfl⟩ : ∃ f', gk = f' + 1 := by
        cases gk with
        | zero =>
          have : x = 0 := by simpa using hx
          exact absurd ⟨this, fun h => by have := ho h; omega⟩ hend
        | succ f => exact ⟨f, rfl⟩
      have HD2 : Hid (digs f' (x / 10) (dig x ++ out) = plainB n) := by
        have := HD.out
        unfold digs at this
        rw [if_neg hend] at this
        exact this
      have hsd : (dig x ++ out).size = out.size + 1 := by rw [ByteArray.size_append]; show 1 + out.size = _; omega
      have hx3 : x / 10 < 10 ^ f' := by rw [Nat.pow_succ] at hx; omega
      have hend2 : x ≠ 0 ∨ out.size = 0 := by
        by_cases e : x = 0
        · right
          by_cases e2 : out.size = 0
          · exact e2
          · exact absurd ⟨e, e2⟩ hend
        · exact .inl e
      clear hx hend
      by_cases e : x = 0
      · have e0 : out.size = 0 := by omega
        have ee := empty_of e0
        subst ee
        subst e
        have hcv := conv_dig wr 0 48 rfl
        have hadd := run_string_add_sum (P := Tryd.prog) (w := wr.alloc (.cells #[.int .u8 48] 5)) (dig 0) ⟨#[]⟩ (by show 1 + 0 ≤ _; omega)
        have HB2 := hid (HB.out.alloc HB.out.size (.cells #[.int .u8 48] 5))
        go_wp2_with fail
        go_roundg f'
        case rel => exact ⟨0, dig 0 ++ ⟨#[]⟩, rfl, rfl, by simpa using hx3, by omega, by omega, by omega, HD2, HB2⟩
        case measure => omega
      · have ex : ¬ ((x : Int) = 0) := by omega
        have hcv := conv_dig wr x (48 + (x : Int) % 10) (by omega)
        have hadd := run_string_add_sum (P := Tryd.prog) (w := wr.alloc (.cells #[.int .u8 (48 + (x : Int) % 10)] 5)) (dig x) out (by show 1 + out.size ≤ _; omega)
        have HB2 := hid (HB.out.alloc HB.out.size (.cells #[.int .u8 (48 + (x : Int) % 10)] 5))
        go_wp2_with fail
        go_roundg f'
        case rel => exact ⟨x / 10, dig x ++ out, rfl, by go_num, hx3, by omega, by omega, by omega, HD2, HB2⟩
        case measure => omega
set_option maxHeartbeats 1000000 in
set_option maxRecDepth 100000 in
theorem markName_any (n : Nat) (w : World) (hn : n ≤ 1000000000) :
    Calls Tryd.prog 30 #[.int .i64 n] w fun e w' => e = .returned (.string (nameB n)) ∧ Below w.heap.size w w' := by
  have HP := hid (plain_any n w hn)
  go_enter Tryd.func30, Tryd.ntmps30
  go_wp2_with fail
  refine HP.out.mono ?_
  rintro e w1 ⟨rfl, hs, hb⟩
  have hadd := run_string_add_sum (P := Tryd.prog) (w := w1) ⟨#[111, 119, 110]⟩ (plainB n) (by show 3 + _ ≤ _; omega)
  have HB := hid hb
  clear hb
  go_wp2_with fail
  go_ret
  exact ⟨rfl, HB.out⟩
end Go.Proofs.YtknakfpciccoaaaDoor
/- The walk of lists: all lists of a value. -/
namespace Go.Proofs.YtknakfpciccoaaaDoor
open Go.RowKit

theorem infoL : (Tryd.prog.info? 23).map (fun i => (i.zero, i.size, i.bytes)) = some (some (.slice none 0 0), 1, 24) := by kernel_rfl
theorem infoN : (Tryd.prog.info? 24).map (fun i => (i.zero, i.size, i.bytes)) = some (some (.slice none 0 0), 1, 24) := by kernel_rfl
/-- The owner's box. -/
structure OwnB (b : Nat) (vs ns : Value) (n : Int) (w : World) : Prop where
  q0 : w.cell? ⟨b, 0, none⟩ = some vs
  q1 : w.cell? ⟨b, 1, none⟩ = some ns
  q2 : w.cell? ⟨b, 2, none⟩ = some (.int .i64 n)
  f0 : w.frozen? ⟨b, 0, none⟩ = false
  f1 : w.frozen? ⟨b, 1, none⟩ = false
  lt : b < w.heap.size
theorem OwnB.move {b : Nat} {vs ns : Value} {n : Int} {w w' : World} (h : OwnB b vs ns n w) (hs : w.heap.size ≤ w'.heap.size) (hb : w'.heap[b]? = w.heap[b]?) : OwnB b vs ns n w' :=
  ⟨(cell_of hb _).trans h.q0, (cell_of hb _).trans h.q1, (cell_of hb _).trans h.q2, (World.frozen?_of_block (w := w) (a := ⟨b, _, none⟩) hb).trans h.f0, (World.frozen?_of_block (w := w) (a := ⟨b, _, none⟩) hb).trans h.f1, Nat.lt_of_lt_of_le h.lt hs⟩
theorem OwnB.put0 {b : Nat} {vs ns : Value} {n : Int} {w : World} (h : OwnB b vs ns n w) (u : Value) : OwnB b u ns n (w.setCell ⟨b, 0, none⟩ u) := by
  refine ⟨World.cell?_setCell_same _ _ _ h.q0, ?_, ?_, ?_, ?_, by simp [World.setCell]; exact h.lt⟩
  · rw [set_other (by omega)]; exact h.q1
  · rw [set_other (by omega)]; exact h.q2
  · rw [World.frozen?_setCell]; exact h.f0
  · rw [World.frozen?_setCell]; exact h.f1
theorem OwnB.put1 {b : Nat} {vs ns : Value} {n : Int} {w : World} (h : OwnB b vs ns n w) (u : Value) : OwnB b vs u n (w.setCell ⟨b, 1, none⟩ u) := by
  refine ⟨?_, World.cell?_setCell_same _ _ _ h.q1, ?_, ?_, ?_, by simp [World.setCell]; exact h.lt⟩
  · rw [set_other (by omega)]; exact h.q0
  · rw [set_other (by omega)]; exact h.q2
  · rw [World.frozen?_setCell]; exact h.f0
  · rw [World.frozen?_setCell]; exact h.f1
/-- The owner's box and its two rows. -/
structure OwnR (b : Nat) (vs ns : Value) (n : Int) (E : List Ent) (w : World) : Prop where
  box : OwnB b vs ns n w
  rowL : w.ownsRow (b + 1) 23 1 vs E.length (E.map (·.l))
  rowK : w.ownsRow (b + 1) 24 1 ns E.length (E.map (·.k))
structure Keep3 (b : Nat) (vs ns : Value) (w w' : World) : Prop where
  os : w'.os = w.os
  tape : w'.tape = w.tape
  output : w'.output = w.output
  size : w.heap.size ≤ w'.heap.size
  block : ∀ k, k < w.heap.size → k ≠ b → some k ≠ vs.ownBlock → some k ≠ ns.ownBlock → w'.heap[k]? = w.heap[k]?
theorem Keep3.refl (b : Nat) (vs ns : Value) (w : World) : Keep3 b vs ns w w := ⟨rfl, rfl, rfl, Nat.le_refl _, fun _ _ _ _ _ => rfl⟩
theorem Keep3.of {b : Nat} {vs ns : Value} {w w' : World} (h : Below w.heap.size w w') : Keep3 b vs ns w w' := ⟨h.os, h.tape, h.output, h.size, fun k hk _ _ _ => h.block k hk⟩
theorem newOr_ne {w : World} {v v' : Value} (h : NewOr w v v') {k : Nat} (hk : k < w.heap.size) (hv : some k ≠ v.ownBlock) : some k ≠ v'.ownBlock := by
  intro e
  rcases h with h | h
  · exact hv (e.trans h)
  · have := h k e.symm
    omega
theorem Keep3.trans {b : Nat} {vs ns vs1 ns1 : Value} {w w1 w2 : World} (h : Keep3 b vs ns w w1) (k : Keep3 b vs1 ns1 w1 w2) (hv : NewOr w vs vs1) (hn : NewOr w ns ns1) : Keep3 b vs ns w w2 :=
  ⟨k.os.trans h.os, k.tape.trans h.tape, k.output.trans h.output, Nat.le_trans h.size k.size, fun i hi h1 h2 h3 => (k.block i (Nat.lt_of_lt_of_le hi h.size) h1 (newOr_ne hv hi h2) (newOr_ne hn hi h3)).trans (h.block i hi h1 h2 h3)⟩
theorem NewOr.refl (w : World) (v : Value) : NewOr w v v := .inl rfl
theorem NewOr.trans {w w1 : World} {v v1 v2 : Value} (h : NewOr w v v1) (k : NewOr w1 v1 v2) (hs : w.heap.size ≤ w1.heap.size) : NewOr w v v2 := by
  rcases k with k | k
  · rcases h with h | h
    · exact .inl (k.trans h)
    · exact .inr fun g e => h g (k ▸ e)
  · exact .inr fun g e => Nat.le_trans hs (k g e)
theorem Keep3.below {b : Nat} {vs ns : Value} {n : Int} {E : List Ent} {w w' : World} (h : Keep3 b vs ns w w') (hR : OwnR b vs ns n E w) : Below b w w' := by
  refine ⟨h.os, h.tape, h.output, h.size, fun k hk => h.block k (by have := hR.box.lt; omega) (by omega) (fun e => ?_) (fun e => ?_)⟩
  · have := (hR.rowL.lt k e.symm).1; omega
  · have := (hR.rowK.lt k e.symm).1; omega
theorem OwnR.keep {b : Nat} {vs ns : Value} {n : Int} {E : List Ent} {w w' : World} (h : OwnR b vs ns n E w) (hb : Below w.heap.size w w') : OwnR b vs ns n E w' :=
  ⟨h.box.move hb.size (hb.block _ h.box.lt), own_move h.rowL fun g e => hb.block g (h.rowL.lt g e).2, own_move h.rowK fun g e => hb.block g (h.rowK.lt g e).2⟩
theorem own_type {w : World} {lo lo' : Nat} {e e' : TypeId} {size size' n n' : Nat} {v v' : Value} {xs ys : List Value} (h : w.ownsRow lo e size v n xs) (h' : w.ownsRow lo' e' size' v' n' ys) (he : e ≠ e') {g : Nat} (hg : v.ownBlock = some g) (hg' : v'.ownBlock = some g) : False := by
  rcases h.2 with ⟨rfl, _⟩ | ⟨a, cap, cur, rfl, _, hga, _⟩
  · cases hg
  · rcases h'.2 with ⟨rfl, _⟩ | ⟨b, cap', cur', rfl, _, hgb, _⟩
    · cases hg'
    · cases hg
      cases hg'
      rw [hga] at hgb
      simp only [Option.some.injEq, Obj.cells.injEq] at hgb
      exact he hgb.2.1
theorem own_block {w : World} {lo : Nat} {e e' : TypeId} {size n : Nat} {v : Value} {xs : List Value} {cs : Array Value} {c : Nat} (h : w.ownsRow lo e size v n xs) (hc : w.heap[c]? = some (.cells cs e' (0, 0))) (he : e ≠ e') : some c ≠ v.ownBlock := by
  intro hg
  rcases h.2 with ⟨rfl, _⟩ | ⟨a, cap, cur, rfl, _, hga, _⟩
  · cases hg
  · cases hg
    rw [hga] at hc
    simp only [Option.some.injEq, Obj.cells.injEq] at hc
    exact he hc.2.1
/-- One more list of values. -/
theorem OwnR.addL {b : Nat} {vs ns : Value} {n : Int} {E : List Ent} {w w2 : World} {g cap : Nat} (h : OwnR b vs ns n E w) (o : Obj) (l : Value)
    (hO : w2.ownsRow (b + 1) 23 1 (.slice (some ⟨g, 0, none⟩) (E.length + 1) cap) (E.length + 1) (E.map (·.l) ++ [l])) (hG : (w.alloc o).grownBy w2 vs.ownBlock) (hat : vs.ownBlock = some g ∨ g = w.heap.size + 1) :
    OwnB b (.slice (some ⟨g, 0, none⟩) (E.length + 1) cap) ns n (w2.setCell ⟨b, 0, none⟩ (.slice (some ⟨g, 0, none⟩) (E.length + 1) cap)) ∧ (w2.setCell ⟨b, 0, none⟩ (.slice (some ⟨g, 0, none⟩) (E.length + 1) cap)).ownsRow (b + 1) 23 1 (.slice (some ⟨g, 0, none⟩) (E.length + 1) cap) (E.length + 1) (E.map (·.l) ++ [l]) ∧
      (w2.setCell ⟨b, 0, none⟩ (.slice (some ⟨g, 0, none⟩) (E.length + 1) cap)).ownsRow (b + 1) 24 1 ns E.length (E.map (·.k)) ∧ Keep3 b vs ns w (w2.setCell ⟨b, 0, none⟩ (.slice (some ⟨g, 0, none⟩) (E.length + 1) cap)) ∧ NewOr w vs (.slice (some ⟨g, 0, none⟩) (E.length + 1) cap) := by
  have hb : Below w.heap.size w (w.alloc o) := (Below.refl _ _).alloc (Nat.le_refl _) _
  have h' := h.keep hb
  have hset : ∀ k, k ≠ b → (w2.setCell ⟨b, 0, none⟩ (.slice (some ⟨g, 0, none⟩) (E.length + 1) cap)).heap[k]? = w2.heap[k]? := fun k hk => Below.heap_setCell _ _ _ _ (by simpa using hk)
  have hbne : some b ≠ vs.ownBlock := fun e => by have := (h.rowL.lt b e.symm).1; omega
  have hsz : (w2.setCell ⟨b, 0, none⟩ (.slice (some ⟨g, 0, none⟩) (E.length + 1) cap)).heap.size = w2.heap.size := by simp [World.setCell]
  refine ⟨(h'.box.move hG.size (hG.block _ h'.box.lt hbne)).put0 _, own_move hO fun k e => hset k ?_, own_move (own_move h'.rowK fun k e => hG.block k (h'.rowK.lt k e).2 fun e2 => ?_) fun k e => hset k ?_, ⟨hG.os.trans hb.os, hG.tape.trans hb.tape, hG.output.trans hb.output, by have := hG.size; have := hb.size; omega, fun k hk h1 h2 _ => ?_⟩, ?_⟩
  · have := (hO.lt k e).1; omega
  · exact own_type h'.rowL h'.rowK (by decide) e2.symm e
  · have := (h'.rowK.lt k e).1; omega
  · exact (hset k h1).trans ((hG.block k (Nat.lt_of_lt_of_le hk hb.size) h2).trans (hb.block k hk))
  · rcases hat with hat | hat
    · exact .inl hat.symm
    · refine .inr fun g' e => ?_
      have : g = g' := by simpa [Value.ownBlock] using e
      omega
theorem OwnR.addK {b : Nat} {vs ns : Value} {n : Int} {A E : List Ent} {w w2 : World} {g cap : Nat} (hB : OwnB b vs ns n w) (hL : w.ownsRow (b + 1) 23 1 vs (A.length) (A.map (·.l))) (hK : w.ownsRow (b + 1) 24 1 ns E.length (E.map (·.k))) (o : Obj) (k : Value)
    (hO : w2.ownsRow (b + 1) 24 1 (.slice (some ⟨g, 0, none⟩) (E.length + 1) cap) (E.length + 1) (E.map (·.k) ++ [k])) (hG : (w.alloc o).grownBy w2 ns.ownBlock) (hat : ns.ownBlock = some g ∨ g = w.heap.size + 1) :
    OwnB b vs (.slice (some ⟨g, 0, none⟩) (E.length + 1) cap) n (w2.setCell ⟨b, 1, none⟩ (.slice (some ⟨g, 0, none⟩) (E.length + 1) cap)) ∧ (w2.setCell ⟨b, 1, none⟩ (.slice (some ⟨g, 0, none⟩) (E.length + 1) cap)).ownsRow (b + 1) 24 1 (.slice (some ⟨g, 0, none⟩) (E.length + 1) cap) (E.length + 1) (E.map (·.k) ++ [k]) ∧
      (w2.setCell ⟨b, 1, none⟩ (.slice (some ⟨g, 0, none⟩) (E.length + 1) cap)).ownsRow (b + 1) 23 1 vs A.length (A.map (·.l)) ∧ Keep3 b vs ns w (w2.setCell ⟨b, 1, none⟩ (.slice (some ⟨g, 0, none⟩) (E.length + 1) cap)) ∧ NewOr w ns (.slice (some ⟨g, 0, none⟩) (E.length + 1) cap) := by
  have hb : Below w.heap.size w (w.alloc o) := (Below.refl _ _).alloc (Nat.le_refl _) _
  have hB' := hB.move hb.size (hb.block _ hB.lt)
  have hL' := own_move hL fun k e => hb.block k (hL.lt k e).2
  have hK' := own_move hK fun k e => hb.block k (hK.lt k e).2
  have hset : ∀ k, k ≠ b → (w2.setCell ⟨b, 1, none⟩ (.slice (some ⟨g, 0, none⟩) (E.length + 1) cap)).heap[k]? = w2.heap[k]? := fun k hk => Below.heap_setCell _ _ _ _ (by simpa using hk)
  have hbne : some b ≠ ns.ownBlock := fun e => by have := (hK.lt b e.symm).1; omega
  have hsz : (w2.setCell ⟨b, 1, none⟩ (.slice (some ⟨g, 0, none⟩) (E.length + 1) cap)).heap.size = w2.heap.size := by simp [World.setCell]
  refine ⟨(hB'.move hG.size (hG.block _ hB'.lt hbne)).put1 _, own_move hO fun k e => hset k ?_, own_move (own_move hL' fun k e => hG.block k (hL'.lt k e).2 fun e2 => ?_) fun k e => hset k ?_, ⟨hG.os.trans hb.os, hG.tape.trans hb.tape, hG.output.trans hb.output, by have := hG.size; have := hb.size; omega, fun k hk h1 _ h2 => ?_⟩, ?_⟩
  · have := (hO.lt k e).1; omega
  · exact own_type hL' hK' (by decide) e e2.symm
  · have := (hL'.lt k e).1; omega
  · exact (hset k h1).trans ((hG.block k (Nat.lt_of_lt_of_le hk hb.size) h2).trans (hb.block k hk))
  · rcases hat with hat | hat
    · exact .inl hat.symm
    · refine .inr fun g' e => ?_
      have : g = g' := by simpa [Value.ownBlock] using e
      omega
end Go.Proofs.YtknakfpciccoaaaDoor
/- The walks of the reference's parser: hexadecimal digits, a rune's bytes. -/
namespace Go.Proofs.YtknakfpciccoaaaDoor
open Go.RowKit

def byteZ (a : Int) : UInt8 := a.toNat.toUInt8
theorem byteZ_nat {a : Int} (h0 : 0 ≤ a) (h1 : a < 256) : ((byteZ a).toNat : Int) = a := by
  unfold byteZ
  rw [Nat.toUInt8, UInt8.toNat_ofNat']
  omega
theorem conv1 (w : World) (a : Int) (ha : 0 ≤ a ∧ a < 256) : (convert 60 9 (.slice (some ⟨w.heap.size, 0, none⟩) 1 1)).run Tryd.prog (w.alloc (.cells #[.int .u8 a] 5)) = .ok (.string ⟨#[byteZ a]⟩) (w.alloc (.cells #[.int .u8 a] 5)) := by
  refine run_convert_bytes_back (P := Tryd.prog) (w.alloc (.cells #[.int .u8 a] 5)) 60 9 5 ⟨w.heap.size, 0, none⟩ 1 [byteZ a] Tryd.underlying60 Tryd.underlying5 Tryd.underlying9 (fun j hj => ?_)
  have hx := byteZ_nat ha.1 ha.2
  match j, hj with
  | 0, _ => simp [go_sem, Addr.add, hx]
theorem conv2 (w : World) (a b : Int) (ha : 0 ≤ a ∧ a < 256) (hb : 0 ≤ b ∧ b < 256) : (convert 60 9 (.slice (some ⟨w.heap.size, 0, none⟩) 2 2)).run Tryd.prog (w.alloc (.cells #[.int .u8 a, .int .u8 b] 5)) = .ok (.string ⟨#[byteZ a, byteZ b]⟩) (w.alloc (.cells #[.int .u8 a, .int .u8 b] 5)) := by
  refine run_convert_bytes_back (P := Tryd.prog) (w.alloc (.cells #[.int .u8 a, .int .u8 b] 5)) 60 9 5 ⟨w.heap.size, 0, none⟩ 2 [byteZ a, byteZ b] Tryd.underlying60 Tryd.underlying5 Tryd.underlying9 (fun j hj => ?_)
  have hx := byteZ_nat ha.1 ha.2
  have hy := byteZ_nat hb.1 hb.2
  match j, hj with
  | 0, _ => simp [go_sem, Addr.add, hx]
  | 1, _ => simp [go_sem, Addr.add, hy]
theorem conv3 (w : World) (a b c : Int) (ha : 0 ≤ a ∧ a < 256) (hb : 0 ≤ b ∧ b < 256) (hc : 0 ≤ c ∧ c < 256) : (convert 60 9 (.slice (some ⟨w.heap.size, 0, none⟩) 3 3)).run Tryd.prog (w.alloc (.cells #[.int .u8 a, .int .u8 b, .int .u8 c] 5)) = .ok (.string ⟨#[byteZ a, byteZ b, byteZ c]⟩) (w.alloc (.cells #[.int .u8 a, .int .u8 b, .int .u8 c] 5)) := by
  refine run_convert_bytes_back (P := Tryd.prog) (w.alloc (.cells #[.int .u8 a, .int .u8 b, .int .u8 c] 5)) 60 9 5 ⟨w.heap.size, 0, none⟩ 3 [byteZ a, byteZ b, byteZ c] Tryd.underlying60 Tryd.underlying5 Tryd.underlying9 (fun j hj => ?_)
  have hx := byteZ_nat ha.1 ha.2
  have hy := byteZ_nat hb.1 hb.2
  have hz := byteZ_nat hc.1 hc.2
  match j, hj with
  | 0, _ => simp [go_sem, Addr.add, hx]
  | 1, _ => simp [go_sem, Addr.add, hy]
  | 2, _ => simp [go_sem, Addr.add, hz]
theorem conv4 (w : World) (a b c d : Int) (ha : 0 ≤ a ∧ a < 256) (hb : 0 ≤ b ∧ b < 256) (hc : 0 ≤ c ∧ c < 256) (hd : 0 ≤ d ∧ d < 256) : (convert 60 9 (.slice (some ⟨w.heap.size, 0, none⟩) 4 4)).run Tryd.prog (w.alloc (.cells #[.int .u8 a, .int .u8 b, .int .u8 c, .int .u8 d] 5)) = .ok (.string ⟨#[byteZ a, byteZ b, byteZ c, byteZ d]⟩) (w.alloc (.cells #[.int .u8 a, .int .u8 b, .int .u8 c, .int .u8 d] 5)) := by
  refine run_convert_bytes_back (P := Tryd.prog) (w.alloc (.cells #[.int .u8 a, .int .u8 b, .int .u8 c, .int .u8 d] 5)) 60 9 5 ⟨w.heap.size, 0, none⟩ 4 [byteZ a, byteZ b, byteZ c, byteZ d] Tryd.underlying60 Tryd.underlying5 Tryd.underlying9 (fun j hj => ?_)
  have hx := byteZ_nat ha.1 ha.2
  have hy := byteZ_nat hb.1 hb.2
  have hz := byteZ_nat hc.1 hc.2
  have hu := byteZ_nat hd.1 hd.2
  match j, hj with
  | 0, _ => simp [go_sem, Addr.add, hx]
  | 1, _ => simp [go_sem, Addr.add, hy]
  | 2, _ => simp [go_sem, Addr.add, hz]
  | 3, _ => simp [go_sem, Addr.add, hu]
theorem enc_of {r : Int} {l : List Int} (h : Lib.encodeRuneZ r = l) : baL (Lib.encodeRune r) = ⟨(l.map byteZ).toArray⟩ := by
  unfold baL Lib.encodeRune
  rw [h]
  rfl
set_option maxHeartbeats 4000000 in
set_option maxRecDepth 100000 in
theorem encoded_any (c : Nat) (w : World) (hc : c ≤ 1114111) (hc2 : c < 55296 ∨ 57343 < c) :
    Calls Tryd.prog 90 #[.int .i64 (c : Int)] w fun e w' => e = .returned (.string (baL (Lib.encodeRune (c : Int)))) ∧ Below w.heap.size w w' := by
  by_cases h1 : c < 128
  · have HX := hid (enc_of (Lib.encodeRuneZ_one (r := (c : Int)) (by omega) (by omega)))
    have y1 : decide ((c : Int) < 128) = true := decide_eq_true (by omega)
    have e1 : IntKind.u8.wrap (c : Int) = (c : Int) := by rw [IntKind.wrap_u8]; omega
    have hcv := conv1 w (c : Int) (by omega)
    clear h1 hc2 hc
    go_enter Tryd.func90, Tryd.ntmps90
    go_wp2_with fail
    go_ret
    exact ⟨by rw [HX.out]; rfl, (Below.refl _ _).alloc (Nat.le_refl _) _⟩
  by_cases h2 : c < 2048
  · have HX := hid (enc_of (Lib.encodeRuneZ_two (r := (c : Int)) (by omega) (by omega)))
    have y1 : decide ((c : Int) < 128) = false := decide_eq_false (by omega)
    have y2 : decide ((c : Int) < 2048) = true := decide_eq_true (by omega)
    have f64 : wrap64 ((c : Int) / 64) = (c : Int) / 64 := by rw [← wrap64_e, IntKind.wrap_i64]; omega
    have g192 : wrap64 (192 + (c : Int) / 64) = 192 + (c : Int) / 64 := by rw [← wrap64_e, IntKind.wrap_i64]; omega
    have k192 : (192 + (c : Int) / 64) % 256 = 192 + (c : Int) / 64 := by omega
    have hcv := conv2 w (192 + (c : Int) / 64) (128 + (c : Int) % 64) (by omega) (by omega)
    clear h1 h2 hc2 hc
    go_enter Tryd.func90, Tryd.ntmps90
    go_wp2_with fail
    go_ret
    exact ⟨by rw [HX.out]; rfl, (Below.refl _ _).alloc (Nat.le_refl _) _⟩
  by_cases h3 : c < 65536
  · have HX := hid (enc_of (Lib.encodeRuneZ_three (r := (c : Int)) (by omega)))
    have y1 : decide ((c : Int) < 128) = false := decide_eq_false (by omega)
    have y2 : decide ((c : Int) < 2048) = false := decide_eq_false (by omega)
    have y3 : decide ((c : Int) < 65536) = true := decide_eq_true (by omega)
    have f64 : wrap64 ((c : Int) / 64) = (c : Int) / 64 := by rw [← wrap64_e, IntKind.wrap_i64]; omega
    have f4096 : wrap64 ((c : Int) / 4096) = (c : Int) / 4096 := by rw [← wrap64_e, IntKind.wrap_i64]; omega
    have g224 : wrap64 (224 + (c : Int) / 4096) = 224 + (c : Int) / 4096 := by rw [← wrap64_e, IntKind.wrap_i64]; omega
    have k224 : (224 + (c : Int) / 4096) % 256 = 224 + (c : Int) / 4096 := by omega
    have hcv := conv3 w (224 + (c : Int) / 4096) (128 + (c : Int) / 64 % 64) (128 + (c : Int) % 64) (by omega) (by omega) (by omega)
    clear h1 h2 h3 hc2 hc
    go_enter Tryd.func90, Tryd.ntmps90
    go_wp2_with fail
    go_ret
    exact ⟨by rw [HX.out]; rfl, (Below.refl _ _).alloc (Nat.le_refl _) _⟩
  · have HX := hid (enc_of (Lib.encodeRuneZ_four (r := (c : Int)) (by omega) (by omega)))
    have y1 : decide ((c : Int) < 128) = false := decide_eq_false (by omega)
    have y2 : decide ((c : Int) < 2048) = false := decide_eq_false (by omega)
    have y3 : decide ((c : Int) < 65536) = false := decide_eq_false (by omega)
    have f64 : wrap64 ((c : Int) / 64) = (c : Int) / 64 := by rw [← wrap64_e, IntKind.wrap_i64]; omega
    have f4096 : wrap64 ((c : Int) / 4096) = (c : Int) / 4096 := by rw [← wrap64_e, IntKind.wrap_i64]; omega
    have f262144 : wrap64 ((c : Int) / 262144) = (c : Int) / 262144 := by rw [← wrap64_e, IntKind.wrap_i64]; omega
    have g240 : wrap64 (240 + (c : Int) / 262144) = 240 + (c : Int) / 262144 := by rw [← wrap64_e, IntKind.wrap_i64]; omega
    have k240 : (240 + (c : Int) / 262144) % 256 = 240 + (c : Int) / 262144 := by omega
    have hcv := conv4 w (240 + (c : Int) / 262144) (128 + (c : Int) / 4096 % 64) (128 + (c : Int) / 64 % 64) (128 + (c : Int) % 64) (by omega) (by omega) (by omega) (by omega)
    clear h1 h2 h3 hc2 hc
    go_enter Tryd.func90, Tryd.ntmps90
    go_wp2_with fail
    go_ret
    exact ⟨by rw [HX.out]; rfl, (Below.refl _ _).alloc (Nat.le_refl _) _⟩
end Go.Proofs.YtknakfpciccoaaaDoor
/- The walks of the reference's parser: hexadecimal digits. -/
namespace Go.Proofs.YtknakfpciccoaaaDoor
open Go.RowKit

def RHexPost (c : Nat) (s : ByteArray) (i : Nat) (b : Bool) (w : World) (e : Ending) (w' : World) : Prop :=
  But c w w' ∧ ((∃ n, hex4 s i = some n ∧ e = .returned (.int .i64 (n : Int)) ∧ RL c s (i + 4) b w') ∨ (hex4 s i = none ∧ e = .returned (.int .i64 (-1)) ∧ RL c s i b w'))
theorem hex4_short {s : ByteArray} {i : Nat} (h : s.size < i + 4) : hex4 s i = none := by
  cases hx : hex4 s i with
  | none => rfl
  | some n => have := (hexN_lt hx).2 (by omega); omega
set_option maxHeartbeats 4000000 in
set_option maxRecDepth 100000 in
theorem rhex_any (c : Nat) (s : ByteArray) (i : Nat) (b : Bool) (w : World) (h : RL c s i b w) (hs : s.size ≤ 4000) (hi : i ≤ s.size + 1) :
    Calls Tryd.prog 89 #[.pointer (some ⟨c, 0, none⟩)] w (RHexPost c s i b w) := by
  have HL := hid h
  have q0 := h.q0
  have q1 := h.q1
  have e1 : IntKind.i64.wrap ((i : Int) + 4) = (i : Int) + 4 := by rw [IntKind.wrap_i64]; omega
  clear h
  by_cases h4 : i + 4 ≤ s.size
  · have x1 : decide ((s.size : Int) < (i : Int) + 4) = false := decide_eq_false (by omega)
    go_enter Tryd.func89, Tryd.ntmps89
    go_wp2_with fail
    go_quiet (fail)
    have HB0 := hid (below_drewN (Below.refl w.heap.size w) nq)
    generalize w.drewN nq = w0 at HB0 ⊢
    have HL0 := hid (HL.out.keep HB0.out)
    clear q0 q1 e1 x1
    go_wp2_with fail
    go_loopg [3, 4] 4 (fun g n j wr => ∃ k a : Nat, g = 4 - k ∧ k ≤ 4 ∧ j = .int .i64 (k : Int) ∧ n = .int .i64 (a : Int) ∧ a < 16 ^ k ∧ Hid (RL c s i b wr) ∧ Hid (But c w wr) ∧ Hid (hexN s i k = some a))
    case atStart => exact ⟨0, 0, rfl, by omega, rfl, rfl, by omega, HL0, But.of HB0.out, rfl⟩
    case round =>
      clear HL0 HB0
      obtain ⟨k, a, rfl, hk, rfl, rfl, ha, HLk, HBk, HX⟩ := hrel
      by_cases hlt : k < 4
      · have ha3 : a < 4096 := Nat.lt_of_lt_of_le ha (Nat.pow_le_pow_right (show 0 < 16 by decide) (show k ≤ 3 by omega))
        have x1 : (k : Int) < 4 := by omega
        obtain ⟨m, hm⟩ : ∃ m : Nat, m = i + k := ⟨_, rfl⟩
        have hik : m < s.size := by omega
        obtain ⟨z, hz, hzc⟩ := cB_get hik
        have HZ : Hid (cB s (i + k) = z.toNat) := by show _ = _; rw [← hm]; exact hzc
        have q0 := HLk.out.q0
        have q1 := HLk.out.q1
        have e1 : IntKind.i64.wrap ((i : Int) + (k : Int)) = (m : Int) := by rw [IntKind.wrap_i64]; omega
        have x2 : (m : Int) < (s.size : Int) := by omega
        clear hm
        have lz : z.toNat < 256 := z.toNat_lt
        clear ha hzc
        go_wp2_with fail
        go_quiet (fail)
        have HBq := hid (below_drewN (Below.refl wr.heap.size wr) nq)
        generalize wr.drewN nq = w1 at HBq ⊢
        have HL1 := hid (HLk.out.keep HBq.out)
        have HB1 := hid (HBk.out.trans (But.of HBq.out))
        clear q0 q1 e1 x2 HLk HBk HBq hz
        have HDg := hid (rdigit_any z.toNat w1)
        by_cases hD : isD z.toNat = true
        · have hq : 48 ≤ z.toNat ∧ z.toNat ≤ 57 := by unfold isD at hD; simp at hD; exact hD
          obtain ⟨q1, q2⟩ := hq
          have HX1 : Hid (hexN s i (k + 1) = some (16 * a + (z.toNat - 48))) := hexN_next HX.out (by rw [HZ.out]; unfold hexV; rw [if_pos hD])
          have hx2 := hexN_lt HX1.out
          rw [hD] at HDg
          obtain ⟨C, hC⟩ : ∃ C : Int, (z.toNat : Int) - 48 = C := ⟨_, rfl⟩
          have hC1 : 0 ≤ C := by omega
          have hC2 : C ≤ 9 := by omega
          have u1 : IntKind.u8.wrap ((z.toNat : Int) - 48) = C := by rw [hC, IntKind.wrap_u8]; omega
          have u2 : IntKind.i64.wrap C = C := by rw [IntKind.wrap_i64]; omega
          have HC := hid hC
          clear HX hD hC
          go_wp2_with fail
          refine HDg.out.mono ?_
          rintro e w1' ⟨rfl, rfl⟩
          go_wp2_with fail
          go_roundg (4 - (k + 1))
          case rel => exact ⟨k + 1, 16 * a + (z.toNat - 48), rfl, by omega, by go_num, congrArg (Value.int .i64) (by have := HC.out; omega), hx2.1, HL1, HB1, HX1⟩
          case measure => omega
        · have hDf : isD z.toNat = false := by simpa using hD
          rw [hDf] at HDg
          by_cases hA : 97 ≤ z.toNat ∧ z.toNat ≤ 102
          · obtain ⟨q1, q2⟩ := hA
            have HX1 : Hid (hexN s i (k + 1) = some (16 * a + (z.toNat - 87))) := hexN_next HX.out (by rw [HZ.out]; unfold hexV; rw [if_neg hD, if_pos ⟨q1, q2⟩])
            have hx2 := hexN_lt HX1.out
            obtain ⟨C, hC⟩ : ∃ C : Int, (z.toNat : Int) - 97 = C := ⟨_, rfl⟩
            have hC1 : 0 ≤ C := by omega
            have hC2 : C ≤ 9 := by omega
            have u1 : IntKind.u8.wrap ((z.toNat : Int) - 97) = C := by rw [hC, IntKind.wrap_u8]; omega
            have u2 : IntKind.i64.wrap C = C := by rw [IntKind.wrap_i64]; omega
            have y1 : decide ((97 : Int) ≤ (z.toNat : Int)) = true := decide_eq_true (by omega)
            have y2 : decide ((z.toNat : Int) ≤ 102) = true := decide_eq_true (by omega)
            have HC := hid hC
            clear HX hD hDf hC
            go_wp2_with fail
            refine HDg.out.mono ?_
            rintro e w1' ⟨rfl, rfl⟩
            go_wp2_with fail
            go_roundg (4 - (k + 1))
            case rel => exact ⟨k + 1, 16 * a + (z.toNat - 87), rfl, by omega, by go_num, congrArg (Value.int .i64) (by have := HC.out; omega), hx2.1, HL1, HB1, HX1⟩
            case measure => omega
          · by_cases hB : 65 ≤ z.toNat ∧ z.toNat ≤ 70
            · obtain ⟨q1, q2⟩ := hB
              have HX1 : Hid (hexN s i (k + 1) = some (16 * a + (z.toNat - 55))) := hexN_next HX.out (by rw [HZ.out]; unfold hexV; rw [if_neg hD, if_neg hA, if_pos ⟨q1, q2⟩])
              have hx2 := hexN_lt HX1.out
              obtain ⟨C, hC⟩ : ∃ C : Int, (z.toNat : Int) - 65 = C := ⟨_, rfl⟩
              have hC1 : 0 ≤ C := by omega
              have hC2 : C ≤ 9 := by omega
              have u1 : IntKind.u8.wrap ((z.toNat : Int) - 65) = C := by rw [hC, IntKind.wrap_u8]; omega
              have u2 : IntKind.i64.wrap C = C := by rw [IntKind.wrap_i64]; omega
              have y1 : decide ((97 : Int) ≤ (z.toNat : Int)) = false := decide_eq_false (by omega)
              have y3 : decide ((65 : Int) ≤ (z.toNat : Int)) = true := decide_eq_true (by omega)
              have y4 : decide ((z.toNat : Int) ≤ 70) = true := decide_eq_true (by omega)
              have HC := hid hC
              clear HX hD hDf hC hA
              go_wp2_with fail
              refine HDg.out.mono ?_
              rintro e w1' ⟨rfl, rfl⟩
              go_wp2_with fail
              go_roundg (4 - (k + 1))
              case rel => exact ⟨k + 1, 16 * a + (z.toNat - 55), rfl, by omega, by go_num, congrArg (Value.int .i64) (by have := HC.out; omega), hx2.1, HL1, HB1, HX1⟩
              case measure => omega
            · have HX1 : Hid (hex4 s i = none) := hexN_stop HX.out (by rw [HZ.out]; unfold hexV; rw [if_neg hD, if_neg hA, if_neg hB]) hlt
              clear HX hD hDf
              by_cases hA1 : 97 ≤ z.toNat
              · have y1 : decide ((97 : Int) ≤ (z.toNat : Int)) = true := decide_eq_true (by omega)
                have y2 : decide ((z.toNat : Int) ≤ 102) = false := decide_eq_false (by omega)
                have y3 : decide ((65 : Int) ≤ (z.toNat : Int)) = true := decide_eq_true (by omega)
                have y4 : decide ((z.toNat : Int) ≤ 70) = false := decide_eq_false (by omega)
                clear hA hB hA1
                go_wp2_with fail
                refine HDg.out.mono ?_
                rintro e w1' ⟨rfl, rfl⟩
                go_wp2_with fail
                go_ret
                exact ⟨HB1.out, Or.inr ⟨HX1.out, rfl, HL1.out⟩⟩
              · have y1 : decide ((97 : Int) ≤ (z.toNat : Int)) = false := decide_eq_false (by omega)
                by_cases hB1 : 65 ≤ z.toNat
                · have y3 : decide ((65 : Int) ≤ (z.toNat : Int)) = true := decide_eq_true (by omega)
                  have y4 : decide ((z.toNat : Int) ≤ 70) = false := decide_eq_false (by omega)
                  clear hA hB hA1 hB1
                  go_wp2_with fail
                  refine HDg.out.mono ?_
                  rintro e w1' ⟨rfl, rfl⟩
                  go_wp2_with fail
                  go_ret
                  exact ⟨HB1.out, Or.inr ⟨HX1.out, rfl, HL1.out⟩⟩
                · have y3 : decide ((65 : Int) ≤ (z.toNat : Int)) = false := decide_eq_false (by omega)
                  clear hA hB hA1 hB1
                  go_wp2_with fail
                  refine HDg.out.mono ?_
                  rintro e w1' ⟨rfl, rfl⟩
                  go_wp2_with fail
                  go_ret
                  exact ⟨HB1.out, Or.inr ⟨HX1.out, rfl, HL1.out⟩⟩
      · have hk4 : k = 4 := by omega
        subst hk4
        have q1 := HLk.out.q1
        have q2 := HLk.out.f1
        go_wp2_with fail
        go_ret
        exact ⟨HBk.out.trans (But.set wr c 1 _), Or.inl ⟨a, HX.out, rfl, HLk.out.set (i + 4)⟩⟩
  · have x1 : decide ((s.size : Int) < (i : Int) + 4) = true := decide_eq_true (by omega)
    have HX := hid (hex4_short (s := s) (i := i) (by omega))
    clear h4
    go_enter Tryd.func89, Tryd.ntmps89
    go_wp2_with fail
    go_quiet (fail)
    have HB0 := hid (below_drewN (Below.refl w.heap.size w) nq)
    generalize w.drewN nq = w0 at HB0 ⊢
    clear q0 q1 e1 x1
    go_wp2_with fail
    go_ret
    exact ⟨But.of HB0.out, Or.inr ⟨HX.out, rfl, HL.out.keep HB0.out⟩⟩
end Go.Proofs.YtknakfpciccoaaaDoor
