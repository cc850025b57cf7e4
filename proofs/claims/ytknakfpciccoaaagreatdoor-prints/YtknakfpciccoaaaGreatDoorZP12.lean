import Derived.Test.YtknakfpciccoaaaGreatDoorZP11
import Derived.Test.YtknakfpciccoaaaGreatDoorZP1
import Derived.Deep.AppendSrc
import Derived.Deep.AppendLies
import Derived.Laws.BytesArg
import Derived.Laws.IdiomStrings
import Derived.Deep.RegionHeldLaw
import Derived.Deep.RegionLaw
/- The walk of Plain, of numbers below zero. -/
namespace Go.Proofs.YtknakfpciccoaaaGreatDoor
open Go.RowKit

set_option maxHeartbeats 4000000 in
set_option maxRecDepth 100000 in
theorem plainNeg_any (n : Nat) (w : World) (h1 : 1 ≤ n) (hn : n ≤ 9223372036854775808) :
    Calls Tryz.prog 84 #[.int .i64 (-(n : Int))] w fun e w' => e = .returned (.string ((⟨#[45]⟩ : ByteArray) ++ digsQ 20 n ByteArray.empty)) ∧ Below w.heap.size w w' := by
  go_enter Tryz.func84, Tryz.ntmps84
  go_wp2_with fail
  go_loopg [3, 4] 20 (fun g o r wr => ∃ (x : Nat) (out : ByteArray), o = .string out ∧ r = .int .i64 (-(x : Int)) ∧ x < 10 ^ g ∧ x ≤ 9223372036854775808 ∧ (out.size = 0 → 1 ≤ g) ∧ out.size + g ≤ 20 ∧ Hid (digsQ g x out = digsQ 20 n ByteArray.empty) ∧ Hid (Below w.heap.size w wr))
  case atStart => exact ⟨n, ByteArray.empty, rfl, rfl, by omega, hn, by omega, by simp, rfl, Below.refl _ _⟩
  case round =>
    obtain ⟨x, out, rfl, rfl, hx, hx2, ho, hf, HD, HB⟩ := hrel
    by_cases hend : x = 0 ∧ out.size ≠ 0
    · obtain ⟨h0, h1⟩ := hend
      subst h0
      have hne := nonempty_of h1
      have HR : Hid (out = digsQ 20 n ByteArray.empty) := by
        have := HD.out
        cases gk with
        | zero => exact this
        | succ f => unfold digsQ at this; rw [if_pos ⟨rfl, h1⟩] at this; exact this
      go_wp2_with fail
      go_ret
      exact ⟨by rw [HR.out]; rfl, HB.out⟩
    · obtain ⟨f', rfl⟩ : ∃ f', gk = f' + 1 := by
        cases gk with
        | zero =>
          have : x = 0 := by simpa using hx
          exact absurd ⟨this, fun h => by have := ho h; omega⟩ hend
        | succ f => exact ⟨f, rfl⟩
      have HD2 : Hid (digsQ f' (x / 10) (digQ x ++ out) = digsQ 20 n ByteArray.empty) := by
        have := HD.out
        unfold digsQ at this
        rw [if_neg hend] at this
        exact this
      have hsd : (digQ x ++ out).size = out.size + 1 := by rw [ByteArray.size_append]; show 1 + out.size = _; omega
      have hx3 : x / 10 < 10 ^ f' := by rw [Nat.pow_succ] at hx; omega
      have hend2 : x ≠ 0 ∨ out.size = 0 := by
        by_cases e : x = 0
        · right
          by_cases e2 : out.size = 0
          · exact e2
          · exact absurd ⟨e, e2⟩ hend
        · exact .inl e
      clear hx hend
      by_cases e : x = 0
      · have e0 : out.size = 0 := by omega
        have ee := empty_of e0
        subst ee
        subst e
        have hcv := conv_digQ wr 0 48 rfl
        have hadd := run_string_add_sum (P := Tryz.prog) (w := wr.alloc (.cells #[.int .u8 48] 5)) (digQ 0) ⟨#[]⟩ (by show 1 + 0 ≤ _; omega)
        have HB2 := hid (HB.out.alloc HB.out.size (.cells #[.int .u8 48] 5))
        go_wp2_with fail
        go_roundg f'
        case rel => exact ⟨0, digQ 0 ++ ⟨#[]⟩, rfl, rfl, by simpa using hx3, by omega, by omega, by omega, HD2, HB2⟩
        case measure => omega
      · have ex : ¬ ((x : Int) = 0) := by omega
        by_cases hm : (x : Int) % 10 = 0
        · have ht : (-(x : Int)).tmod 10 = 0 := by rw [Int.neg_tmod, Int.tmod_eq_emod_of_nonneg (by omega), hm]; rfl
          have hd : (-(x : Int)).tdiv 10 = -((x : Int) / 10) := by rw [Int.neg_tdiv, Int.tdiv_eq_ediv_of_nonneg (by omega)]
          have hcv := conv_digQ wr x 48 (by omega)
          have hadd := run_string_add_sum (P := Tryz.prog) (w := wr.alloc (.cells #[.int .u8 48] 5)) (digQ x) out (by show 1 + out.size ≤ _; omega)
          have HB2 := hid (HB.out.alloc HB.out.size (.cells #[.int .u8 48] 5))
          go_wp2_with fail
          go_roundg f'
          case rel => exact ⟨x / 10, digQ x ++ out, rfl, by go_num, hx3, by omega, by omega, by omega, HD2, HB2⟩
          case measure => omega
        · have hm1 : 0 < (x : Int) % 10 := by omega
          have ht : (-(x : Int)).tmod 10 = -((x : Int) % 10) := by rw [Int.neg_tmod, Int.tmod_eq_emod_of_nonneg (by omega)]
          have hd : (-(x : Int)).tdiv 10 = -((x : Int) / 10) := by rw [Int.neg_tdiv, Int.tdiv_eq_ediv_of_nonneg (by omega)]
          have hcv := conv_digQ wr x (48 + (x : Int) % 10) (by omega)
          have hadd := run_string_add_sum (P := Tryz.prog) (w := wr.alloc (.cells #[.int .u8 (48 + (x : Int) % 10)] 5)) (digQ x) out (by show 1 + out.size ≤ _; omega)
          have HB2 := hid (HB.out.alloc HB.out.size (.cells #[.int .u8 (48 + (x : Int) % 10)] 5))
          go_wp2_with fail
          go_roundg f'
          case rel => exact ⟨x / 10, digQ x ++ out, rfl, by go_num, hx3, by omega, by omega, by omega, HD2, HB2⟩
          case measure => omega
end Go.Proofs.YtknakfpciccoaaaGreatDoor
/- append onto a slice of one's own, of whatever is appended: a text's bytes too. -/
namespace Go.Proofs.YtknakfpciccoaaaGreatDoor
open Go.RowKit

theorem run_append_src {P : Program} (w : World) (base : Nat) (t tx ty e : TypeId) (i : TypeInfo) (z : Value) (size bytes : Nat) (ht : P.underlying t = some (.slice e)) (hi : P.info? e = some i) (hz : i.zero = some z)
    (hsize : i.size = size) (hby : i.bytes = bytes) (hzs : z.cells.size = size)
    (v : Value) (n : Nat) (xs : List Value) (hown : w.ownsRow base e size v n xs) (x : Value) (m : Nat) (news : List Value) (hs : Src P size tx x m news w)
    (h63 : n + m ≤ maxLen) (hbytes : (n + m) * bytes ≤ 140737488355328) (hbase : base ≤ w.heap.size) :
    ∃ v' w', (Builtin.append_ #[t, tx] ty #[v, x]).run P w = .ok v' w' ∧ w'.ownsRow base e size v' (n + m) (xs ++ news) ∧ w.grownBy w' v.ownBlock ∧ (v'.ownBlock = v.ownBlock ∨ v'.ownBlock = some w.heap.size) := by
  subst hsize
  subst hby
  have hsmall : n + m ≤ 9223372036854775807 := by simp only [maxLen] at h63; omega
  have hl := hs.newsLen
  have hlen : (xs ++ news).length = (n + m) * i.size := by rw [List.length_append, hown.1, hl, Nat.add_mul]
  have grown : ∀ (old : Nat), ∀ (row : Option Nat),
      (w.drew.alloc (.cells ((xs ++ news).toArray ++ Builtin.zeroCells z.cells (grownCap w (n + m) old e - (n + m))) e)).ownsRow base e i.size
        (.slice (some ⟨w.heap.size, 0, none⟩) (n + m) (grownCap w (n + m) old e)) (n + m) (xs ++ news) ∧
      w.grownBy (w.drew.alloc (.cells ((xs ++ news).toArray ++ Builtin.zeroCells z.cells (grownCap w (n + m) old e - (n + m))) e)) row := by
    intro old row
    have hge := grownCap_ge w (n + m) old e
    have hcm : grownCap w (n + m) old e ≤ maxLen := grownCap_le_maxLen w (n + m) old e h63
    refine ⟨⟨hlen, .inr ⟨w.heap.size, _, _, rfl, hbase, heap_alloc_new w.drew _, hge, hcm, ?_, ?_⟩⟩, ⟨rfl, rfl, rfl, by simp, fun k hk _ => heap_alloc_old w.drew _ hk⟩⟩
    · simp only [Array.size_append, List.size_toArray, size_zeroCells, hzs, hlen, ← Nat.add_mul]
      congr 1
      omega
    · simp only [Array.toList_append]
      rw [← hlen]
      exact List.take_left
  rcases hown.2 with ⟨rfl, rfl⟩ | ⟨g, cap, cur, rfl, hbg, hg, hnc, hcm, hcs, htake⟩
  · have hx : xs = [] := List.eq_nil_of_length_eq_zero (by simpa using hown.1)
    subst hx
    by_cases hm : m = 0
    · subst hm
      have hn : news = [] := List.eq_nil_of_length_eq_zero (by simpa using hl)
      subst hn
      refine ⟨.slice none 0 0, w, ?_, World.ownsRow_nil w base e i.size, ⟨rfl, rfl, rfl, Nat.le_refl _, fun _ _ _ => rfl⟩, Or.inl rfl⟩
      rcases hs.kind with ⟨e', hk⟩ | hk <;> simp [Builtin.append_, run_underlying ht, run_underlying hk, sizeOf, typeInfo, hi, hs.len, hs.cells]
    · have hr := run_append_grow_src (P := P) w t tx ty e i z ht hi hz none 0 0 [] (run_firstCells_none w.drew i.size 0 0 0) x m news hs (by omega) (by omega) (growslice_fits (by omega) hbytes)
      have hgr := grown 0 (Value.ownBlock (.slice none 0 0))
      exact ⟨_, _, hr, hgr.1, hgr.2, Or.inr rfl⟩
  · by_cases hroom : n + m ≤ cap
    · have hfit : n * i.size + news.length ≤ cur.size := by rw [hl, hcs, ← Nat.add_mul]; exact Nat.mul_le_mul_right _ hroom
      have hst := run_storeCells_at P g (n * i.size) e news 0 cur w hg (by simpa using hfit) hs.one
      simp only [Nat.add_zero] at hst
      have hr : (Builtin.append_ #[t, tx] ty #[.slice (some ⟨g, 0, none⟩) n cap, x]).run P w = .ok (.slice (some ⟨g, 0, none⟩) (n + m) cap) (w.setRow g (cur.toList.take (n * i.size) ++ news ++ cur.toList.drop (n * i.size + news.length)).toArray) := by
        rcases hs.kind with ⟨e', hk⟩ | hk <;> simp [Builtin.append_, run_underlying ht, run_underlying hk, sizeOf, typeInfo, hi, hs.len, hroom, hs.cells, Addr.add_lit, hst]
      refine ⟨_, _, hr, ⟨hlen, .inr ⟨g, cap, _, rfl, hbg, setRow_heap w g cur _ e _ hg, hroom, hcm, ?_, ?_⟩⟩, ⟨rfl, rfl, rfl, by simp, fun k _ hk => setRow_other w g k _ (fun e => hk (by simp [Value.ownBlock, e]))⟩, Or.inl rfl⟩
      · simp only [List.size_toArray, List.length_append, List.length_take, List.length_drop, Array.length_toList]
        omega
      · rw [htake, ← hlen]
        exact List.take_left
    · have holds : ∀ j u, xs[j]? = some u → w.cell? ((⟨g, 0, none⟩ : Addr).add j) = some u := hown.cells (g := g) rfl
      have hr := run_append_grow_src (P := P) w t tx ty e i z ht hi hz (some ⟨g, 0, none⟩) n cap xs (run_firstCells_some w.drew i.size n ⟨g, 0, none⟩ n cap xs hown.1 (by simpa using holds)) x m news hs (by omega) (by omega) (growslice_fits (by omega) hbytes)
      have hgr := grown cap (Value.ownBlock (.slice (some ⟨g, 0, none⟩) n cap))
      exact ⟨_, _, hr, hgr.1, hgr.2, Or.inr rfl⟩
theorem wp_append_src {P : Program} (w : World) {o : Oper} {a : Act} {K : Act → World → Prop} {Q : Exit → Act → World → Prop} (s xo : Operand) (t tx : TypeId)
    (ho : o.op = .call { callee := .builtin .append, args := #[s, xo], argTypes := #[t, tx] })
    (base : Nat) (e : TypeId) (i : TypeInfo) (z : Value) (size bytes : Nat) (ht : P.underlying t = some (.slice e)) (hi : P.info? e = some i) (hz : i.zero = some z)
    (hsize : i.size = size) (hby : i.bytes = bytes) (hzs : z.cells.size = size)
    (v : Value) (n : Nat) (xs : List Value) (hsv : a.eval s = v) (hown : w.ownsRow base e size v n xs) (x : Value) (m : Nat) (news : List Value) (hx : a.eval xo = x) (hs : Src P size tx x m news w)
    (h63 : n + m ≤ maxLen) (hbytes : (n + m) * bytes ≤ 140737488355328) (hbase : base ≤ w.heap.size)
    (h : ∀ v' w', w'.ownsRow base e size v' (n + m) (xs ++ news) → w.grownBy w' v.ownBlock → (v'.ownBlock = v.ownBlock ∨ v'.ownBlock = some w.heap.size) → K (a.put o.dst v') w') : o.wp P a w K Q := by
  obtain ⟨v', w', hr, h2, h3, h4⟩ := run_append_src (P := P) w base t tx o.type e i z size bytes ht hi hz hsize hby hzs v n xs hown x m news hs h63 hbytes hbase
  unfold Oper.wp execOp
  simp only [ho, resolve, invoke, builtin, Sem.run_bind, Sem.run_pure, Result.andThen_ok, List.map_toArray, List.map_cons, List.map_nil, hsv, hx, hr]
  exact h v' w' h2 h3 h4
theorem wpList_append_src {P : Program} (w : World) {ops : Array Oper} {rest : List Oper} {o : Oper} {a : Act} {Q : Exit → Act → World → Prop} (hgd : o.guard = none) (s xo : Operand) (t tx : TypeId)
    (ho : o.op = .call { callee := .builtin .append, args := #[s, xo], argTypes := #[t, tx] })
    (base : Nat) (e : TypeId) (i : TypeInfo) (z : Value) (size bytes : Nat) (ht : P.underlying t = some (.slice e)) (hi : P.info? e = some i) (hz : i.zero = some z)
    (hsize : i.size = size) (hby : i.bytes = bytes) (hzs : z.cells.size = size)
    (v : Value) (n : Nat) (xs : List Value) (hsv : a.eval s = v) (hown : w.ownsRow base e size v n xs) (x : Value) (m : Nat) (news : List Value) (hx : a.eval xo = x) (hs : Src P size tx x m news w)
    (h63 : n + m ≤ maxLen) (hbytes : (n + m) * bytes ≤ 140737488355328) (hbase : base ≤ w.heap.size)
    (h : ∀ v' w', w'.ownsRow base e size v' (n + m) (xs ++ news) → w.grownBy w' v.ownBlock → (v'.ownBlock = v.ownBlock ∨ v'.ownBlock = some w.heap.size) → wpList P ops Q rest (a.put o.dst v') w') : wpList P ops Q (o :: rest) a w :=
  wpList_plain hgd fun _ hK => wp_append_src w s xo t tx ho base e i z size bytes ht hi hz hsize hby hzs v n xs hsv hown x m news hx hs h63 hbytes hbase fun v' w' h2 h3 h4 => hK _ _ (h v' w' h2 h3 h4)
theorem step_append_src {P : Program} (w : World) {ops : Array Oper} {o : Oper} {a : Act} {K : Act → World → Prop} {Q : Exit → Act → World → Prop} {E : Prop} (hgd : o.guard = none) (s xo : Operand) (t tx : TypeId)
    (ho : o.op = .call { callee := .builtin .append, args := #[s, xo], argTypes := #[t, tx] })
    (base : Nat) (e : TypeId) (i : TypeInfo) (z : Value) (size bytes : Nat) (ht : P.underlying t = some (.slice e)) (hi : P.info? e = some i) (hz : i.zero = some z)
    (hsize : i.size = size) (hby : i.bytes = bytes) (hzs : z.cells.size = size)
    (v : Value) (n : Nat) (xs : List Value) (hsv : a.eval s = v) (hown : w.ownsRow base e size v n xs) (x : Value) (m : Nat) (news : List Value) (hx : a.eval xo = x) (hs : Src P size tx x m news w)
    (h63 : n + m ≤ maxLen) (hbytes : (n + m) * bytes ≤ 140737488355328) (hbase : base ≤ w.heap.size)
    (h : ∀ v' w', w'.ownsRow base e size v' (n + m) (xs ++ news) → w.grownBy w' v.ownBlock → (v'.ownBlock = v.ownBlock ∨ v'.ownBlock = some w.heap.size) → K (a.put o.dst v') w') :
    if Region.wanted o (yielded ops a.tmps) = true then Oper.wp P o a w K Q else E := by
  have hw : Region.wanted o (yielded ops a.tmps) = true := by simp [Region.wanted, hgd]
  rw [if_pos hw]
  exact wp_append_src w s xo t tx ho base e i z size bytes ht hi hz hsize hby hzs v n xs hsv hown x m news hx hs h63 hbytes hbase h
/-- A text's bytes, as cells. -/
def bytesV (l : List UInt8) : List Value := l.map fun b => Value.int .u8 b.toNat
theorem bytesV_append (a b : List UInt8) : bytesV (a ++ b) = bytesV a ++ bytesV b := List.map_append ..
theorem bytesV_length (a : List UInt8) : (bytesV a).length = a.length := List.length_map ..
theorem src_bytes {P : Program} (w : World) {tx : TypeId} (hk : P.underlying tx = some .string) (s : ByteArray) : Src P 1 tx (.string s) s.size (bytesV s.data.toList) w := Src.ofString w hk s
/-- A list of bytes of one's own, as a text. -/
theorem conv_own {P : Program} {w : World} {base : Nat} {src dst e : TypeId} {v : Value} {l : List UInt8} (hs : P.underlying src = some (.slice e)) (he : P.underlying e = some (.int .u8)) (hd : P.underlying dst = some .string)
    (h : w.ownsRow base e 1 v l.length (bytesV l)) : (convert src dst v).run P w = .ok (.string ⟨l.toArray⟩) w := by
  rcases h.2 with ⟨rfl, h0⟩ | ⟨g, cap, cur, rfl, hbg, hg, hnc, hcm, hcs, htake⟩
  · have : l = [] := List.eq_nil_of_length_eq_zero h0
    subst this
    exact run_convert_bytes_nil w src e hs he 0 0 dst hd
  · refine run_convert_bytes_back (P := P) w src dst e ⟨g, 0, none⟩ cap l hs he hd fun j hj => ?_
    have := h.cells (g := g) rfl j (.int .u8 ((l[j]'hj).toNat : Nat)) (by unfold bytesV; rw [List.getElem?_map, List.getElem?_eq_getElem hj]; rfl)
    exact this
end Go.Proofs.YtknakfpciccoaaaGreatDoor
/- The walk of the reference's quoted. -/
namespace Go.Proofs.YtknakfpciccoaaaGreatDoor
open Go.RowKit

theorem infoBQ : (Tryz.prog.info? 5).map (fun i => (i.zero, i.size, i.bytes)) = some (some (.int .u8 0), 1, 1) := by kernel_rfl
/-- A list of bytes of one's own, while a text is written. -/
structure QI (w : World) (v : Value) (acc : List UInt8) (wr : World) : Prop where
  own : wr.ownsRow w.heap.size 5 1 v acc.length (bytesV acc)
  below : Below w.heap.size w wr
theorem rowQ_move {w w' : World} {lo : Nat} {e : TypeId} {size n : Nat} {v : Value} {xs : List Value} (h : w.ownsRow lo e size v n xs) (hb : ∀ b, lo ≤ b → b < w.heap.size → w'.heap[b]? = w.heap[b]?) : w'.ownsRow lo e size v n xs := by
  refine ⟨h.1, ?_⟩
  rcases h.2 with hn | ⟨g, cap, cur, rfl, hb0, hg, rest⟩
  · exact .inl hn
  · exact .inr ⟨g, cap, cur, rfl, hb0, (hb g hb0 (Array.getElem?_eq_some_iff.1 hg).1).trans hg, rest⟩
theorem QI.keep {w : World} {v : Value} {acc : List UInt8} {wr w1 : World} (h : QI w v acc wr) (hB : Below wr.heap.size wr w1) : QI w v acc w1 :=
  ⟨rowQ_move h.own fun b _ h2 => hB.block b h2, h.below.trans (hB.mono h.below.size)⟩
theorem QI.grow {w : World} {v v' : Value} {acc l : List UInt8} {wr w1 : World} (h : QI w v acc wr) (hO : w1.ownsRow w.heap.size 5 1 v' (acc.length + l.length) (bytesV acc ++ bytesV l)) (hG : wr.grownBy w1 v.ownBlock) : QI w v' (acc ++ l) w1 := by
  refine ⟨?_, ⟨hG.os.trans h.below.os, hG.tape.trans h.below.tape, hG.output.trans h.below.output, Nat.le_trans h.below.size hG.size, fun k hk => ?_⟩⟩
  · rw [List.length_append, bytesV_append]
    exact hO
  · rw [hG.block k (Nat.lt_of_lt_of_le hk h.below.size) ?_, h.below.block k hk]
    intro e
    rcases h.own.2 with ⟨rfl, _⟩ | ⟨g, cap, cur, rfl, hb0, _⟩
    · cases e
    · have : k = g := by simpa [Value.ownBlock] using e
      omega
theorem built_cell (w : World) (l : List UInt8) (j : Nat) (u : Value) (hj : (bytesV l)[j]? = some u) : (w.alloc (.cells (bytesV l).toArray 5)).cell? ((⟨w.heap.size, 0, none⟩ : Addr).add j) = some u := by
  have e0 : (w.alloc (.cells (bytesV l).toArray 5)).heap[w.heap.size]? = some (.cells (bytesV l).toArray 5) := by show (w.heap.push _)[w.heap.size]? = _; simp
  have e1 : ((⟨w.heap.size, 0, none⟩ : Addr).add j) = ⟨w.heap.size, j, none⟩ := by simp [Addr.add]; intro h; exact h.symm
  rw [e1]
  unfold World.cell?
  rw [e0]
  show (if _ then none else (bytesV l).toArray[j]?) = some u
  rw [if_neg (by simp)]
  simpa using hj
theorem src_built (w : World) (l : List UInt8) : Src Tryz.prog 1 63 (.slice (some ⟨w.heap.size, 0, none⟩) l.length l.length) l.length (bytesV l) (w.alloc (.cells (bytesV l).toArray 5)) :=
  Src.ofSlice _ Tryz.underlying63 ⟨w.heap.size, 0, none⟩ l.length l.length (bytesV l) (by rw [bytesV_length]; omega) (built_cell w l) (fun u hu => by obtain ⟨b, _, rfl⟩ := List.mem_map.1 hu; rfl)
theorem src_builtD (w : World) (l : List UInt8) : Src Tryz.prog 1 63 (.slice (some ⟨w.heap.size, 0, none⟩) l.length l.length) l.length (bytesV l) (w.alloc (.cells (bytesV l).toArray 5)).drew :=
  Src.ofSlice _ Tryz.underlying63 ⟨w.heap.size, 0, none⟩ l.length l.length (bytesV l) (by rw [bytesV_length]; omega) (fun j u hj => by simpa using built_cell w l j u hj) (fun u hu => by obtain ⟨b, _, rfl⟩ := List.mem_map.1 hu; rfl)
set_option maxHeartbeats 4000000 in
set_option maxRecDepth 100000 in
theorem quoted_any (s : ByteArray) (w : World) (hs : s.size ≤ 1048576) :
    Calls Tryz.prog 85 #[.string s] w fun e w' => e = .returned (.string (baL (quoL s))) ∧ Below w.heap.size w w' := by
  obtain ⟨iB, hiB, zB0, zB1, zB2⟩ := info_parts infoBQ
  have HE : Hid (quoL s = [34] ++ escTo s s.size ++ [34]) := by show _ = _; simp [quoL]
  have HLen : Hid (∀ k, k ≤ s.size → ([34] ++ escTo s k).length ≤ 6291457) := hid (fun k hk => by have := escTo_len s k; simp only [List.length_append, List.length_cons, List.length_nil]; omega)
  have H0 : Hid (QI w (.slice (some ⟨w.heap.size, 0, none⟩) 1 1) [34] (w.alloc (.cells #[.int .u8 34] 5))) := hid ⟨by
      refine ⟨by simp [bytesV], .inr ⟨w.heap.size, 1, #[.int .u8 34], rfl, Nat.le_refl _, ?_, ?_⟩⟩
      · show (w.heap.push _)[w.heap.size]? = _; simp
      · refine ⟨by simp, by unfold maxLen; omega, by simp, ?_⟩
        simp [bytesV], (Below.refl _ _).alloc (Nat.le_refl _) _⟩
  go_enter Tryz.func85, Tryz.ntmps85
  go_wp2_with fail
  go_loopg [3, 4] (s.size) (fun g o i wr => ∃ k : Nat, g = s.size - k ∧ k ≤ s.size ∧ i = .int .i64 k ∧ Hid (QI w o ([34] ++ escTo s k) wr))
  case atStart => exact ⟨0, rfl, Nat.zero_le _, rfl, by rw [escTo_zero]; exact H0⟩
  case round =>
    obtain ⟨k, rfl, hk, rfl, HW⟩ := hrel
    have hlk := HLen.out k hk
    by_cases hlt : k < s.size
    · obtain ⟨z, hz⟩ : ∃ z : UInt8, s[k]'hlt = z := ⟨_, rfl⟩
      have HZ := hid (escTo_succ (get_some hlt hz))
      have x1 : (k : Int) < (s.size : Int) := by omega
      have lz : z.toNat < 256 := z.toNat_lt
      by_cases hq2 : z.toNat = 34 ∨ z.toNat = 92
      · have HC := hid (escC_q hq2)
        rcases hq2 with hq2 | hq2
        · have y1 : ((z.toNat : Int) == 34) = true := by rw [beq_iff_eq]; omega
          clear hq2
          have HB1 : Hid (Below wr.heap.size wr (wr.alloc (.cells #[.int .u8 92, .int .u8 (z.toNat : Int)] 5))) := (Below.refl _ _).alloc (Nat.le_refl _) _
          have HI1 := hid (HW.out.keep HB1.out)
          have HSb : Hid (Src Tryz.prog 1 63 (.slice (some ⟨wr.heap.size, 0, none⟩) 2 2) 2 (bytesV [92, z]) (wr.alloc (.cells #[.int .u8 92, .int .u8 (z.toNat : Int)] 5))) := hid (src_built wr [92, z])
          go_wp2_with (at_builtin; refine wpList_append_src _ rfl (.tmp 27) (.tmp 29) 63 63 rfl w.heap.size 5 iB _ 1 1 Tryz.underlying63 hiB zB0 zB1 zB2 rfl u3 ([34] ++ escTo s k).length (bytesV ([34] ++ escTo s k)) rfl HI1.out.own (.slice (some ⟨wr.heap.size, 0, none⟩) 2 2) 2 (bytesV [92, z]) rfl HSb.out (by unfold maxLen; omega) (by omega) HI1.out.below.size ?_; intro v' w6 hO6 hG6 hat6)
          have H6 := hid (HI1.out.grow (l := [92, z]) hO6 hG6)
          clear hO6 hG6 hat6 HI1 HSb HB1
          go_wp2_with fail
          go_roundg (s.size - (k + 1))
          case rel => exact ⟨k + 1, rfl, by omega, by go_num, by rw [HZ.out, HC.out, ← List.append_assoc]; exact H6⟩
          case measure => omega
        · have y0 : ((z.toNat : Int) == 34) = false := by rw [beq_eq_false_iff_ne]; omega
          have y1 : ((z.toNat : Int) == 92) = true := by rw [beq_iff_eq]; omega
          clear hq2
          have HB1 : Hid (Below wr.heap.size wr (wr.alloc (.cells #[.int .u8 92, .int .u8 (z.toNat : Int)] 5))) := (Below.refl _ _).alloc (Nat.le_refl _) _
          have HI1 := hid (HW.out.keep HB1.out)
          have HSb : Hid (Src Tryz.prog 1 63 (.slice (some ⟨wr.heap.size, 0, none⟩) 2 2) 2 (bytesV [92, z]) (wr.alloc (.cells #[.int .u8 92, .int .u8 (z.toNat : Int)] 5))) := hid (src_built wr [92, z])
          go_wp2_with (at_builtin; refine wpList_append_src _ rfl (.tmp 27) (.tmp 29) 63 63 rfl w.heap.size 5 iB _ 1 1 Tryz.underlying63 hiB zB0 zB1 zB2 rfl u3 ([34] ++ escTo s k).length (bytesV ([34] ++ escTo s k)) rfl HI1.out.own (.slice (some ⟨wr.heap.size, 0, none⟩) 2 2) 2 (bytesV [92, z]) rfl HSb.out (by unfold maxLen; omega) (by omega) HI1.out.below.size ?_; intro v' w6 hO6 hG6 hat6)
          have H6 := hid (HI1.out.grow (l := [92, z]) hO6 hG6)
          clear hO6 hG6 hat6 HI1 HSb HB1
          go_wp2_with fail
          go_roundg (s.size - (k + 1))
          case rel => exact ⟨k + 1, rfl, by omega, by go_num, by rw [HZ.out, HC.out, ← List.append_assoc]; exact H6⟩
          case measure => omega
      · have y34 : ((z.toNat : Int) == 34) = false := by rw [beq_eq_false_iff_ne]; omega
        have y92 : ((z.toNat : Int) == 92) = false := by rw [beq_eq_false_iff_ne]; omega
        by_cases hu : z.toNat < 32
        · have HC := hid (escC_u hq2 hu)
          have y1 : decide ((z.toNat : Int) < 32) = true := decide_eq_true (by omega)
          obtain ⟨p1, hp1⟩ : ∃ p1, p1 = z.toNat / 16 := ⟨_, rfl⟩
          obtain ⟨p2, hp2⟩ : ∃ p2, p2 = z.toNat % 16 := ⟨_, rfl⟩
          have n1 : p1 < 16 := by omega
          have n2 : p2 < 16 := by omega
          have f1 : IntKind.u8.wrap ((z.toNat : Int) / 16) = (p1 : Int) := by rw [IntKind.wrap_u8]; omega
          have f2 : ((z.toNat : Int)).tmod 16 = (p2 : Int) := by rw [Int.tmod_eq_emod_of_nonneg (by omega)]; omega
          have f3 : (p1 : Int) < 16 := by omega
          have f4 : (p2 : Int) < 16 := by omega
          rw [← hp1, ← hp2, ← hexS_at n1, ← hexS_at n2] at HC
          clear hq2 hp1 hp2
          have HB1 : Hid (Below wr.heap.size wr (wr.alloc (.cells #[.int .u8 92, .int .u8 117, .int .u8 48, .int .u8 48, .int .u8 (((⟨#[48, 49, 50, 51, 52, 53, 54, 55, 56, 57, 97, 98, 99, 100, 101, 102]⟩ : ByteArray)[p1]'n1).toNat : Int), .int .u8 (((⟨#[48, 49, 50, 51, 52, 53, 54, 55, 56, 57, 97, 98, 99, 100, 101, 102]⟩ : ByteArray)[p2]'n2).toNat : Int)] 5))) := (Below.refl _ _).alloc (Nat.le_refl _) _
          have HI1 := hid ((HW.out.keep HB1.out).keep (below_drew _))
          have HSb : Hid (Src Tryz.prog 1 63 (.slice (some ⟨wr.heap.size, 0, none⟩) 6 6) 6 (bytesV [92, 117, 48, 48, (⟨#[48, 49, 50, 51, 52, 53, 54, 55, 56, 57, 97, 98, 99, 100, 101, 102]⟩ : ByteArray)[p1]'n1, (⟨#[48, 49, 50, 51, 52, 53, 54, 55, 56, 57, 97, 98, 99, 100, 101, 102]⟩ : ByteArray)[p2]'n2]) (wr.alloc (.cells #[.int .u8 92, .int .u8 117, .int .u8 48, .int .u8 48, .int .u8 (((⟨#[48, 49, 50, 51, 52, 53, 54, 55, 56, 57, 97, 98, 99, 100, 101, 102]⟩ : ByteArray)[p1]'n1).toNat : Int), .int .u8 (((⟨#[48, 49, 50, 51, 52, 53, 54, 55, 56, 57, 97, 98, 99, 100, 101, 102]⟩ : ByteArray)[p2]'n2).toNat : Int)] 5)).drew) := hid (src_builtD wr [92, 117, 48, 48, (⟨#[48, 49, 50, 51, 52, 53, 54, 55, 56, 57, 97, 98, 99, 100, 101, 102]⟩ : ByteArray)[p1]'n1, (⟨#[48, 49, 50, 51, 52, 53, 54, 55, 56, 57, 97, 98, 99, 100, 101, 102]⟩ : ByteArray)[p2]'n2])
          go_wp2_with fail
          go_region_law ((refine step_append_src _ (by rfl) (.tmp 34) (.tmp 41) 63 63 (by rfl) w.heap.size 5 iB _ 1 1 Tryz.underlying63 hiB zB0 zB1 zB2 rfl u3 ([34] ++ escTo s k).length (bytesV ([34] ++ escTo s k)) (by rfl) HI1.out.own (.slice (some ⟨wr.heap.size, 0, none⟩) 6 6) 6 (bytesV [92, 117, 48, 48, (⟨#[48, 49, 50, 51, 52, 53, 54, 55, 56, 57, 97, 98, 99, 100, 101, 102]⟩ : ByteArray)[p1]'n1, (⟨#[48, 49, 50, 51, 52, 53, 54, 55, 56, 57, 97, 98, 99, 100, 101, 102]⟩ : ByteArray)[p2]'n2]) (by rfl) HSb.out (by unfold maxLen; omega) (by omega) HI1.out.below.size ?_); intro v' w6 hO6 hG6 hat6; have H6 := hid (HI1.out.grow (l := [92, 117, 48, 48, (⟨#[48, 49, 50, 51, 52, 53, 54, 55, 56, 57, 97, 98, 99, 100, 101, 102]⟩ : ByteArray)[p1]'n1, (⟨#[48, 49, 50, 51, 52, 53, 54, 55, 56, 57, 97, 98, 99, 100, 101, 102]⟩ : ByteArray)[p2]'n2]) hO6 hG6))
          all_goals
            clear hO6 hG6 hat6
            go_wp2_with fail
            go_roundg (s.size - (k + 1))
            case rel => exact ⟨k + 1, rfl, by omega, by go_num, by rw [HZ.out, HC.out, ← List.append_assoc]; exact H6⟩
            case measure => omega
        · have HC := hid (escC_p hq2 hu)
          have y1 : decide ((z.toNat : Int) < 32) = false := decide_eq_false (by omega)
          clear hq2
          have HB1 : Hid (Below wr.heap.size wr (wr.alloc (.cells #[.int .u8 (z.toNat : Int)] 5))) := (Below.refl _ _).alloc (Nat.le_refl _) _
          have HI1 := hid (HW.out.keep HB1.out)
          have HSb : Hid (Src Tryz.prog 1 63 (.slice (some ⟨wr.heap.size, 0, none⟩) 1 1) 1 (bytesV [z]) (wr.alloc (.cells #[.int .u8 (z.toNat : Int)] 5))) := hid (src_built wr [z])
          go_wp2_with (at_builtin; refine wpList_append_src _ rfl (.tmp 16) (.tmp 18) 63 63 rfl w.heap.size 5 iB _ 1 1 Tryz.underlying63 hiB zB0 zB1 zB2 rfl u3 ([34] ++ escTo s k).length (bytesV ([34] ++ escTo s k)) rfl HI1.out.own (.slice (some ⟨wr.heap.size, 0, none⟩) 1 1) 1 (bytesV [z]) rfl HSb.out (by unfold maxLen; omega) (by omega) HI1.out.below.size ?_; intro v' w6 hO6 hG6 hat6)
          have H6 := hid (HI1.out.grow (l := [z]) hO6 hG6)
          clear hO6 hG6 hat6 HI1 HSb HB1
          go_wp2_with fail
          go_roundg (s.size - (k + 1))
          case rel => exact ⟨k + 1, rfl, by omega, by go_num, by rw [HZ.out, HC.out, ← List.append_assoc]; exact H6⟩
          case measure => omega
    · obtain rfl : k = s.size := by omega
      have HB1 : Hid (Below wr.heap.size wr (wr.alloc (.cells #[.int .u8 34] 5))) := (Below.refl _ _).alloc (Nat.le_refl _) _
      have HI1 := hid (HW.out.keep HB1.out)
      have HSb : Hid (Src Tryz.prog 1 63 (.slice (some ⟨wr.heap.size, 0, none⟩) 1 1) 1 (bytesV [34]) (wr.alloc (.cells #[.int .u8 34] 5))) := hid (src_built wr [34])
      go_wp2_with (at_builtin; refine wpList_append_src _ rfl (.tmp 43) (.tmp 44) 63 63 rfl w.heap.size 5 iB _ 1 1 Tryz.underlying63 hiB zB0 zB1 zB2 rfl u3 ([34] ++ escTo s s.size).length (bytesV ([34] ++ escTo s s.size)) rfl HI1.out.own (.slice (some ⟨wr.heap.size, 0, none⟩) 1 1) 1 (bytesV [34]) rfl HSb.out (by unfold maxLen; omega) (by omega) HI1.out.below.size ?_; intro v' w6 hO6 hG6 hat6)
      have H6 := hid (HI1.out.grow (l := [34]) hO6 hG6)
      have hcv := conv_own (P := Tryz.prog) Tryz.underlying63 Tryz.underlying5 Tryz.underlying9 H6.out.own
      rw [← HE.out] at hcv
      clear hO6 hG6 hat6 HI1 HSb HB1
      go_wp2_with fail
      rw [hcv]
      go_wp2_with fail
      go_ret
      exact ⟨rfl, H6.out.below⟩
end Go.Proofs.YtknakfpciccoaaaGreatDoor
/- The walk of the reference's written. -/
namespace Go.Proofs.YtknakfpciccoaaaGreatDoor
open Go.RowKit

theorem cat_ex (a b : ByteArray) (la lb : List UInt8) (ha : a = baL la) (hb : b = baL lb) (h : la.length + lb.length ≤ 1000000000) : ∃ c : ByteArray, c = baL (la ++ lb) ∧ ∀ w : World, (Op.stringOp .add a b).run Tryz.prog w = .ok (.string c) w := by
  refine ⟨a ++ b, ?_, fun w => run_string_add_sum w a b (by rw [ha, hb, baL_size, baL_size]; omega)⟩
  apply ba_extQ
  rw [ha, hb]
  simp [baL]
theorem plain_all (n : Int) (w : World) (h0 : -9223372036854775808 ≤ n) (h1 : n ≤ 9223372036854775807) :
    Calls Tryz.prog 84 #[.int .i64 n] w fun e w' => e = .returned (.string (baL (Lib.itoa n))) ∧ Below w.heap.size w w' := by
  by_cases hn : n < 0
  · obtain ⟨k, rfl⟩ : ∃ k : Nat, n = -(k : Int) := ⟨n.natAbs, by omega⟩
    refine (plainNeg_any k w (by omega) (by omega)).mono ?_
    rintro e w' ⟨rfl, hb⟩
    refine ⟨?_, hb⟩
    rw [digsQ_eq 20 k _ (by omega) (by omega) (.inr rfl), Lib.itoa, if_pos hn]
    congr 2
    apply ba_extQ
    simp [baL]
  · obtain ⟨k, rfl⟩ : ∃ k : Nat, n = (k : Int) := ⟨n.toNat, by omega⟩
    refine (plainPos_any k w (by omega)).mono ?_
    rintro e w' ⟨rfl, hb⟩
    refine ⟨?_, hb⟩
    rw [digsQ_eq 20 k _ (by omega) (by omega) (.inr rfl), Lib.itoa, if_neg hn]
    simp
def WtSaid (m : Nat) : Prop := ∀ (f : Nat) (v : Value) (t : T) (w : World), At w f v t → Good m t → (wrT m t).length ≤ 100000000 →
    Calls Tryz.prog 45 #[v] w fun e w' => e = .returned (.string (baL (wrT m t))) ∧ Below w.heap.size w w'
set_option maxHeartbeats 4000000 in
set_option maxRecDepth 100000 in
theorem written_leaf (t : T) (hg : leafGood t) (ht : Fits t) (w : World) (La Ka : Option Addr) (Lc Kc : Nat) :
    Calls Tryz.prog 45 #[.agg #[.int .i64 (kindOf t), .int .i64 (nOf t), .string (sOf t), .slice La (nL t) Lc, .slice Ka (nK t) Kc]] w fun e w' => e = .returned (.string (baL (leafW t))) ∧ Below w.heap.size w w' := by
  have HB1 : Hid (Below w.heap.size w (w.alloc (.cells #[.int .i64 (kindOf t), .int .i64 (nOf t), .string (sOf t), .slice La (nL t) Lc, .slice Ka (nK t) Kc] 25))) := (Below.refl _ _).alloc (Nat.le_refl _) _
  have HFt := hid ht
  clear ht
  obtain ⟨g1, g2, hg⟩ := hg
  clear g1 g2
  rcases hg with ⟨hk, g3⟩ | ⟨hk, hn, g3⟩ | ⟨hk, g3⟩ | ⟨hk, g3, hsz, g4⟩
  all_goals clear g3
  · have e1 : (kindOf t == 1) = true := by rw [hk]; rfl
    have HW : Hid (leafW t = [110, 117, 108, 108]) := by show _ = _; unfold leafW; rw [if_pos hk]
    rw [HW.out]
    clear hk
    go_enter Tryz.func45, Tryz.ntmps45
    go_wp2_with fail
    go_ret
    exact ⟨rfl, HB1.out⟩
  · have e1 : (kindOf t == 1) = false := by rw [hk]; rfl
    have e2 : (kindOf t == 2) = true := by rw [hk]; rfl
    have HB2 : Hid (Below w.heap.size w ((w.alloc (.cells #[.int .i64 (kindOf t), .int .i64 (nOf t), .string (sOf t), .slice La (nL t) Lc, .slice Ka (nK t) Kc] 25)).alloc (.cells #[.string ⟨#[102, 97, 108, 115, 101]⟩, .string ⟨#[116, 114, 117, 101]⟩] 9))) := HB1.out.alloc HB1.out.size _
    have HW : Hid (leafW t = if nOf t = 1 then trueL else falseL) := by show _ = _; unfold leafW; rw [if_neg (by omega), if_pos hk]; rfl
    generalize hN : nOf t = N at *
    rcases hn with rfl | rfl
    · have HW0 : Hid (leafW t = falseL) := by show _ = _; rw [HW.out]; rfl
      rw [HW0.out]
      clear hk
      go_enter Tryz.func45, Tryz.ntmps45
      go_wp2_with fail
      go_ret
      exact ⟨rfl, HB2.out⟩
    · have HW0 : Hid (leafW t = trueL) := by show _ = _; rw [HW.out]; rfl
      rw [HW0.out]
      clear hk
      go_enter Tryz.func45, Tryz.ntmps45
      go_wp2_with fail
      go_ret
      exact ⟨rfl, HB2.out⟩
  · have e1 : (kindOf t == 1) = false := by rw [hk]; rfl
    have e2 : (kindOf t == 2) = false := by rw [hk]; rfl
    have e3 : (kindOf t == 3) = true := by rw [hk]; rfl
    have HW : Hid (leafW t = Lib.itoa (nOf t)) := by show _ = _; unfold leafW; rw [hk]; rfl
    rw [HW.out]
    have HP := hid (plain_all (nOf t) (w.alloc (.cells #[.int .i64 (kindOf t), .int .i64 (nOf t), .string (sOf t), .slice La (nL t) Lc, .slice Ka (nK t) Kc] 25)) HFt.out.n0 HFt.out.n1)
    generalize baL (Lib.itoa (nOf t)) = s at HP ⊢
    clear hk
    go_enter Tryz.func45, Tryz.ntmps45
    go_wp2_with fail
    refine HP.out.mono ?_
    rintro e w2 ⟨rfl, hb2⟩
    have H2 := hid (HB1.out.trans (hb2.mono HB1.out.size))
    clear hb2 HP
    go_wp2_with fail
    go_ret
    exact ⟨rfl, H2.out⟩
  · have e1 : (kindOf t == 1) = false := by rw [hk]; rfl
    have e2 : (kindOf t == 2) = false := by rw [hk]; rfl
    have e3 : (kindOf t == 3) = false := by rw [hk]; rfl
    have e4 : (kindOf t == 4) = true := by rw [hk]; rfl
    have HW : Hid (leafW t = quoL (sOf t)) := by show _ = _; unfold leafW; rw [hk]; rfl
    rw [HW.out]
    have HP := hid (quoted_any (sOf t) (w.alloc (.cells #[.int .i64 (kindOf t), .int .i64 (nOf t), .string (sOf t), .slice La (nL t) Lc, .slice Ka (nK t) Kc] 25)) (by omega))
    generalize baL (quoL (sOf t)) = s at HP ⊢
    clear hk hsz g4
    go_enter Tryz.func45, Tryz.ntmps45
    go_wp2_with fail
    refine HP.out.mono ?_
    rintro e w2 ⟨rfl, hb2⟩
    have H2 := hid (HB1.out.trans (hb2.mono HB1.out.size))
    clear hb2 HP
    go_wp2_with fail
    go_ret
    exact ⟨rfl, H2.out⟩
end Go.Proofs.YtknakfpciccoaaaGreatDoor
/- The walk of written, of lists. -/
namespace Go.Proofs.YtknakfpciccoaaaGreatDoor
open Go.RowKit

set_option maxHeartbeats 4000000 in
set_option maxRecDepth 100000 in
theorem written_list (m : Nat) (ih : WtSaid m) (f : Nat) (t : T) (w : World) (La Ka : Option Addr) (Lc Kc : Nat) (hl : ElemsAt w f La t) (hn : nL t ≤ 1759218604442) (hg : ∀ i, i < nL t → Good m (elt t i)) (hk : kindOf t = 5) (hlen : (joinL (wrT m) t (nL t)).length + 2 ≤ 100000000) :
    Calls Tryz.prog 45 #[.agg #[.int .i64 (kindOf t), .int .i64 (nOf t), .string (sOf t), .slice La (nL t) Lc, .slice Ka (nK t) Kc]] w fun e w' => e = .returned (.string (baL (91 :: (joinL (wrT m) t (nL t) ++ [93])))) ∧ Below w.heap.size w w' := by
  have e1 : (kindOf t == 1) = false := by rw [hk]; rfl
  have e2 : (kindOf t == 2) = false := by rw [hk]; rfl
  have e3 : (kindOf t == 3) = false := by rw [hk]; rfl
  have e4 : (kindOf t == 4) = false := by rw [hk]; rfl
  have e6 : (kindOf t == 6) = false := by rw [hk]; rfl
  have Hl := hid hl
  have Hg := hid hg
  have Hih := hid ih
  have HM : Hid (∀ k, k ≤ nL t → (joinL (wrT m) t k).length + 2 ≤ 100000000) := hid (fun k hk => by have := joinL_mono (wrT m) t hk; omega)
  clear hl hg ih hk hlen
  go_enter Tryz.func45, Tryz.ntmps45
  go_wp2_with fail
  go_loopg [3, 4] (nL t) (fun g o i wr => ∃ (k : Nat) (out : ByteArray), g = nL t - k ∧ k ≤ nL t ∧ o = .string out ∧ i = .int .i64 k ∧ Hid (out = baL (joinL (wrT m) t k)) ∧ Hid (Below (w.heap.size + 1) (w.alloc (.cells #[.int .i64 (kindOf t), .int .i64 (nOf t), .string (sOf t), .slice La (nL t) Lc, .slice Ka (nK t) Kc] 25)) wr))
  case atStart => exact ⟨0, ⟨#[]⟩, rfl, Nat.zero_le _, rfl, rfl, rfl, Below.refl _ _⟩
  case round =>
    obtain ⟨k, out, rfl, hk, rfl, rfl, HO, HB⟩ := hrel
    obtain ⟨q0, q1, q2, q3, q4, hz, hbw⟩ := box_facts HB.out
    have Hbr := hid hbw
    clear hbw
    by_cases hlt : k < nL t
    · obtain ⟨bb, o, A, B, C, D, rfl, hbl, p0, p1, p2, p3, p4, Ha⟩ := Hl.out.shape Hbr.out k hlt
      have hm1 := HM.out (k + 1) hlt
      have HG := hid (Hg.out k hlt)
      have HA := hid (At.keep Hbr.out Ha.out)
      by_cases hk0 : k = 0
      · have HJ : Hid (joinL (wrT m) t (k + 1) = joinL (wrT m) t k ++ wrT m (elt t k)) := by show joinL (wrT m) t k ++ _ = _; rw [if_pos hk0]; simp
        rw [HJ.out, List.length_append] at hm1
        have HC := hid (Hih.out f _ (elt t k) wr HA.out HG.out (by omega))
        obtain ⟨c, y1, g1⟩ := cat_ex out (baL (wrT m (elt t k))) _ _ HO.out rfl (by omega)
        rw [← HJ.out] at y1
        have HY := hid y1
        clear y1 hm1
        generalize baL (wrT m (elt t k)) = s at HC g1
        subst hk0
        simp only [Nat.zero_mul, Nat.add_zero] at p0 p1 p2 p3 p4
        go_wp2_with fail
        refine HC.out.mono ?_
        rintro e w2 ⟨rfl, hb2⟩
        have HB2 := hid (HB.out.trans (hb2.mono (by omega)))
        clear hb2 HC
        go_wp2_with fail
        go_roundg (nL t - (0 + 1))
        case rel => exact ⟨0 + 1, c, rfl, by omega, rfl, by go_num, HY, HB2⟩
        case measure => omega
      · have HJ : Hid (joinL (wrT m) t (k + 1) = joinL (wrT m) t k ++ [44] ++ wrT m (elt t k)) := by show joinL (wrT m) t k ++ _ = _; rw [if_neg hk0]; simp
        rw [HJ.out] at hm1
        simp only [List.length_append, List.length_cons, List.length_nil] at hm1
        have HC := hid (Hih.out f _ (elt t k) wr HA.out HG.out (by omega))
        obtain ⟨c0, y0, g0⟩ := cat_ex out ⟨#[44]⟩ _ [44] HO.out rfl (by simp only [List.length_cons, List.length_nil]; omega)
        obtain ⟨c, y1, g1⟩ := cat_ex c0 (baL (wrT m (elt t k))) _ _ y0 rfl (by simp only [List.length_append, List.length_cons, List.length_nil]; omega)
        rw [← HJ.out] at y1
        have HY := hid y1
        clear y0 y1 hm1
        generalize baL (wrT m (elt t k)) = s at HC g1
        have z0 : 0 < k := by omega
        have z1 : (0 : Int) < (k : Int) := by omega
        clear hk0
        go_wp2_with fail
        refine HC.out.mono ?_
        rintro e w2 ⟨rfl, hb2⟩
        have HB2 := hid (HB.out.trans (hb2.mono (by omega)))
        clear hb2 HC
        go_wp2_with fail
        go_roundg (nL t - (k + 1))
        case rel => exact ⟨k + 1, c, rfl, by omega, rfl, by go_num, HY, HB2⟩
        case measure => omega
    · obtain rfl : k = nL t := by omega
      have hm0 := HM.out (nL t) hk
      obtain ⟨a1, y1, g1⟩ := cat_ex ⟨#[91]⟩ out [91] (joinL (wrT m) t (nL t)) rfl HO.out (by simp only [List.length_cons, List.length_nil]; omega)
      obtain ⟨a2, y2, g2⟩ := cat_ex a1 ⟨#[93]⟩ _ [93] y1 rfl (by simp only [List.length_cons, List.length_nil, List.length_append]; omega)
      have HE : Hid (a2 = baL (91 :: (joinL (wrT m) t (nL t) ++ [93]))) := by show _ = _; rw [y2]; simp
      clear y1 y2 hlt
      go_wp2_with fail
      go_ret
      exact ⟨by rw [← HE.out]; rfl, Hbr.out⟩
end Go.Proofs.YtknakfpciccoaaaGreatDoor
