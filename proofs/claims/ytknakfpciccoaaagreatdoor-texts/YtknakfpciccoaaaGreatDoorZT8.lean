import Derived.Test.YtknakfpciccoaaaGreatDoorZT1
import Derived.Deep.AppendSrc
import Derived.Deep.AppendLies
import Derived.Laws.BytesArg
import Derived.Laws.IdiomStrings
import Derived.Test.YtknakfpciccoaaaGreatDoorProg
import Derived.Test.YtknakfpciccoaaaGreatDoorZT2
import Derived.Test.YtknakfpciccoaaaGreatDoorZT4
import Derived.Deep.RegionHeldLaw
import Derived.Deep.RegionLaw
import Derived.Test.YtknakfpciccoaaaGreatDoorZT6
/- append onto a slice of one's own, of whatever is appended: a text's bytes too. -/
namespace Go.Proofs.YtknakfpciccoaaaGreatDoor
open Go.RowKit

theorem run_append_src {P : Program} (w : World) (base : Nat) (t tx ty e : TypeId) (i : TypeInfo) (z : Value) (size bytes : Nat) (ht : P.underlying t = some (.slice e)) (hi : P.info? e = some i) (hz : i.zero = some z)
    (hsize : i.size = size) (hby : i.bytes = bytes) (hzs : z.cells.size = size)
    (v : Value) (n : Nat) (xs : List Value) (hown : w.ownsRow base e size v n xs) (x : Value) (m : Nat) (news : List Value) (hs : Src P size tx x m news w)
    (h63 : n + m ≤ maxLen) (hbytes : (n + m) * bytes ≤ 140737488355328) (hbase : base ≤ w.heap.size) :
    ∃ v' w', (Builtin.append_ #[t, tx] ty #[v, x]).run P w = .ok v' w' ∧ w'.ownsRow base e size v' (n + m) (xs ++ news) ∧ w.grownBy w' v.ownBlock ∧ (v'.ownBlock = v.ownBlock ∨ v'.ownBlock = some w.heap.size) := by
  subst hsize
  subst hby
  have hsmall : n + m ≤ 9223372036854775807 := by simp only [maxLen] at h63; omega
  have hl := hs.newsLen
  have hlen : (xs ++ news).length = (n + m) * i.size := by rw [List.length_append, hown.1, hl, Nat.add_mul]
  have grown : ∀ (old : Nat), ∀ (row : Option Nat),
      (w.drew.alloc (.cells ((xs ++ news).toArray ++ Builtin.zeroCells z.cells (grownCap w (n + m) old e - (n + m))) e)).ownsRow base e i.size
        (.slice (some ⟨w.heap.size, 0, none⟩) (n + m) (grownCap w (n + m) old e)) (n + m) (xs ++ news) ∧
      w.grownBy (w.drew.alloc (.cells ((xs ++ news).toArray ++ Builtin.zeroCells z.cells (grownCap w (n + m) old e - (n + m))) e)) row := by
    intro old row
    have hge := grownCap_ge w (n + m) old e
    have hcm : grownCap w (n + m) old e ≤ maxLen := grownCap_le_maxLen w (n + m) old e h63
    refine ⟨⟨hlen, .inr ⟨w.heap.size, _, _, rfl, hbase, heap_alloc_new w.drew _, hge, hcm, ?_, ?_⟩⟩, ⟨rfl, rfl, rfl, by simp, fun k hk _ => heap_alloc_old w.drew _ hk⟩⟩
    · simp only [Array.size_append, List.size_toArray, size_zeroCells, hzs, hlen, ← Nat.add_mul]
      congr 1
      omega
    · simp only [Array.toList_append]
      rw [← hlen]
      exact List.take_left
  rcases hown.2 with ⟨rfl, rfl⟩ | ⟨g, cap, cur, rfl, hbg, hg, hnc, hcm, hcs, htake⟩
  · have hx : xs = [] := List.eq_nil_of_length_eq_zero (by simpa using hown.1)
    subst hx
    by_cases hm : m = 0
    · subst hm
      have hn : news = [] := List.eq_nil_of_length_eq_zero (by simpa using hl)
      subst hn
      refine ⟨.slice none 0 0, w, ?_, World.ownsRow_nil w base e i.size, ⟨rfl, rfl, rfl, Nat.le_refl _, fun _ _ _ => rfl⟩, Or.inl rfl⟩
      rcases hs.kind with ⟨e', hk⟩ | hk <;> simp [Builtin.append_, run_underlying ht, run_underlying hk, sizeOf, typeInfo, hi, hs.len, hs.cells]
    · have hr := run_append_grow_src (P := P) w t tx ty e i z ht hi hz none 0 0 [] (run_firstCells_none w.drew i.size 0 0 0) x m news hs (by omega) (by omega) (growslice_fits (by omega) hbytes)
      have hgr := grown 0 (Value.ownBlock (.slice none 0 0))
      exact ⟨_, _, hr, hgr.1, hgr.2, Or.inr rfl⟩
  · by_cases hroom : n + m ≤ cap
    · have hfit : n * i.size + news.length ≤ cur.size := by rw [hl, hcs, ← Nat.add_mul]; exact Nat.mul_le_mul_right _ hroom
      have hst := run_storeCells_at P g (n * i.size) e news 0 cur w hg (by simpa using hfit) hs.one
      simp only [Nat.add_zero] at hst
      have hr : (Builtin.append_ #[t, tx] ty #[.slice (some ⟨g, 0, none⟩) n cap, x]).run P w = .ok (.slice (some ⟨g, 0, none⟩) (n + m) cap) (w.setRow g (cur.toList.take (n * i.size) ++ news ++ cur.toList.drop (n * i.size + news.length)).toArray) := by
        rcases hs.kind with ⟨e', hk⟩ | hk <;> simp [Builtin.append_, run_underlying ht, run_underlying hk, sizeOf, typeInfo, hi, hs.len, hroom, hs.cells, Addr.add_lit, hst]
      refine ⟨_, _, hr, ⟨hlen, .inr ⟨g, cap, _, rfl, hbg, setRow_heap w g cur _ e _ hg, hroom, hcm, ?_, ?_⟩⟩, ⟨rfl, rfl, rfl, by simp, fun k _ hk => setRow_other w g k _ (fun e => hk (by simp [Value.ownBlock, e]))⟩, Or.inl rfl⟩
      · simp only [List.size_toArray, List.length_append, List.length_take, List.length_drop, Array.length_toList]
        omega
      · rw [htake, ← hlen]
        exact List.take_left
    · have holds : ∀ j u, xs[j]? = some u → w.cell? ((⟨g, 0, none⟩ : Addr).add j) = some u := hown.cells (g := g) rfl
      have hr := run_append_grow_src (P := P) w t tx ty e i z ht hi hz (some ⟨g, 0, none⟩) n cap xs (run_firstCells_some w.drew i.size n ⟨g, 0, none⟩ n cap xs hown.1 (by simpa using holds)) x m news hs (by omega) (by omega) (growslice_fits (by omega) hbytes)
      have hgr := grown cap (Value.ownBlock (.slice (some ⟨g, 0, none⟩) n cap))
      exact ⟨_, _, hr, hgr.1, hgr.2, Or.inr rfl⟩
theorem wp_append_src {P : Program} (w : World) {o : Oper} {a : Act} {K : Act → World → Prop} {Q : Exit → Act → World → Prop} (s xo : Operand) (t tx : TypeId)
    (ho : o.op = .call { callee := .builtin .append, args := #[s, xo], argTypes := #[t, tx] })
    (base : Nat) (e : TypeId) (i : TypeInfo) (z : Value) (size bytes : Nat) (ht : P.underlying t = some (.slice e)) (hi : P.info? e = some i) (hz : i.zero = some z)
    (hsize : i.size = size) (hby : i.bytes = bytes) (hzs : z.cells.size = size)
    (v : Value) (n : Nat) (xs : List Value) (hsv : a.eval s = v) (hown : w.ownsRow base e size v n xs) (x : Value) (m : Nat) (news : List Value) (hx : a.eval xo = x) (hs : Src P size tx x m news w)
    (h63 : n + m ≤ maxLen) (hbytes : (n + m) * bytes ≤ 140737488355328) (hbase : base ≤ w.heap.size)
    (h : ∀ v' w', w'.ownsRow base e size v' (n + m) (xs ++ news) → w.grownBy w' v.ownBlock → (v'.ownBlock = v.ownBlock ∨ v'.ownBlock = some w.heap.size) → K (a.put o.dst v') w') : o.wp P a w K Q := by
  obtain ⟨v', w', hr, h2, h3, h4⟩ := run_append_src (P := P) w base t tx o.type e i z size bytes ht hi hz hsize hby hzs v n xs hown x m news hs h63 hbytes hbase
  unfold Oper.wp execOp
  simp only [ho, resolve, invoke, builtin, Sem.run_bind, Sem.run_pure, Result.andThen_ok, List.map_toArray, List.map_cons, List.map_nil, hsv, hx, hr]
  exact h v' w' h2 h3 h4
theorem wpList_append_src {P : Program} (w : World) {ops : Array Oper} {rest : List Oper} {o : Oper} {a : Act} {Q : Exit → Act → World → Prop} (hgd : o.guard = none) (s xo : Operand) (t tx : TypeId)
    (ho : o.op = .call { callee := .builtin .append, args := #[s, xo], argTypes := #[t, tx] })
    (base : Nat) (e : TypeId) (i : TypeInfo) (z : Value) (size bytes : Nat) (ht : P.underlying t = some (.slice e)) (hi : P.info? e = some i) (hz : i.zero = some z)
    (hsize : i.size = size) (hby : i.bytes = bytes) (hzs : z.cells.size = size)
    (v : Value) (n : Nat) (xs : List Value) (hsv : a.eval s = v) (hown : w.ownsRow base e size v n xs) (x : Value) (m : Nat) (news : List Value) (hx : a.eval xo = x) (hs : Src P size tx x m news w)
    (h63 : n + m ≤ maxLen) (hbytes : (n + m) * bytes ≤ 140737488355328) (hbase : base ≤ w.heap.size)
    (h : ∀ v' w', w'.ownsRow base e size v' (n + m) (xs ++ news) → w.grownBy w' v.ownBlock → (v'.ownBlock = v.ownBlock ∨ v'.ownBlock = some w.heap.size) → wpList P ops Q rest (a.put o.dst v') w') : wpList P ops Q (o :: rest) a w :=
  wpList_plain hgd fun _ hK => wp_append_src w s xo t tx ho base e i z size bytes ht hi hz hsize hby hzs v n xs hsv hown x m news hx hs h63 hbytes hbase fun v' w' h2 h3 h4 => hK _ _ (h v' w' h2 h3 h4)
theorem step_append_src {P : Program} (w : World) {ops : Array Oper} {o : Oper} {a : Act} {K : Act → World → Prop} {Q : Exit → Act → World → Prop} {E : Prop} (hgd : o.guard = none) (s xo : Operand) (t tx : TypeId)
    (ho : o.op = .call { callee := .builtin .append, args := #[s, xo], argTypes := #[t, tx] })
    (base : Nat) (e : TypeId) (i : TypeInfo) (z : Value) (size bytes : Nat) (ht : P.underlying t = some (.slice e)) (hi : P.info? e = some i) (hz : i.zero = some z)
    (hsize : i.size = size) (hby : i.bytes = bytes) (hzs : z.cells.size = size)
    (v : Value) (n : Nat) (xs : List Value) (hsv : a.eval s = v) (hown : w.ownsRow base e size v n xs) (x : Value) (m : Nat) (news : List Value) (hx : a.eval xo = x) (hs : Src P size tx x m news w)
    (h63 : n + m ≤ maxLen) (hbytes : (n + m) * bytes ≤ 140737488355328) (hbase : base ≤ w.heap.size)
    (h : ∀ v' w', w'.ownsRow base e size v' (n + m) (xs ++ news) → w.grownBy w' v.ownBlock → (v'.ownBlock = v.ownBlock ∨ v'.ownBlock = some w.heap.size) → K (a.put o.dst v') w') :
    if Region.wanted o (yielded ops a.tmps) = true then Oper.wp P o a w K Q else E := by
  have hw : Region.wanted o (yielded ops a.tmps) = true := by simp [Region.wanted, hgd]
  rw [if_pos hw]
  exact wp_append_src w s xo t tx ho base e i z size bytes ht hi hz hsize hby hzs v n xs hsv hown x m news hx hs h63 hbytes hbase h
/-- A text's bytes, as cells. -/
def bytesV (l : List UInt8) : List Value := l.map fun b => Value.int .u8 b.toNat
theorem bytesV_append (a b : List UInt8) : bytesV (a ++ b) = bytesV a ++ bytesV b := List.map_append ..
theorem bytesV_length (a : List UInt8) : (bytesV a).length = a.length := List.length_map ..
theorem src_bytes {P : Program} (w : World) {tx : TypeId} (hk : P.underlying tx = some .string) (s : ByteArray) : Src P 1 tx (.string s) s.size (bytesV s.data.toList) w := Src.ofString w hk s
/-- A list of bytes of one's own, as a text. -/
theorem conv_own {P : Program} {w : World} {base : Nat} {src dst e : TypeId} {v : Value} {l : List UInt8} (hs : P.underlying src = some (.slice e)) (he : P.underlying e = some (.int .u8)) (hd : P.underlying dst = some .string)
    (h : w.ownsRow base e 1 v l.length (bytesV l)) : (convert src dst v).run P w = .ok (.string ⟨l.toArray⟩) w := by
  rcases h.2 with ⟨rfl, h0⟩ | ⟨g, cap, cur, rfl, hbg, hg, hnc, hcm, hcs, htake⟩
  · have : l = [] := List.eq_nil_of_length_eq_zero h0
    subst this
    exact run_convert_bytes_nil w src e hs he 0 0 dst hd
  · refine run_convert_bytes_back (P := P) w src dst e ⟨g, 0, none⟩ cap l hs he hd fun j hj => ?_
    have := h.cells (g := g) rfl j (.int .u8 ((l[j]'hj).toNat : Nat)) (by unfold bytesV; rw [List.getElem?_map, List.getElem?_eq_getElem hj]; rfl)
    exact this
end Go.Proofs.YtknakfpciccoaaaGreatDoor
/- Values as bytes, pure: what is written; a row of bytes of one's own that grows. -/
namespace Go.Proofs.YtknakfpciccoaaaGreatDoor
open Go.RowKit

/-- The byte at a place, counted from the lowest. -/
def byAt (n : Int) (k : Nat) : UInt8 := UInt8.ofNat (n / 256 ^ k % 256).toNat
theorem byAt_toNat (n : Int) (k : Nat) : ((byAt n k).toNat : Int) = n / 256 ^ k % 256 := by
  unfold byAt
  rw [UInt8.toNat_ofNat']
  have h0 := Int.emod_nonneg (n / 256 ^ k) (show (256 : Int) ≠ 0 by decide)
  have h1 := Int.emod_lt_of_pos (n / 256 ^ k) (show (0 : Int) < 256 by decide)
  omega
theorem by_eq {a b : UInt8} (h : (a.toNat : Int) = b.toNat) : a = b := UInt8.toNat_inj.1 (by omega)
/-- So many of the lowest bytes, the highest first. -/
def beL (n : Int) : Nat → List UInt8
  | 0 => []
  | k + 1 => byAt n k :: beL n k
theorem beL_len (n : Int) : ∀ k, (beL n k).length = k
  | 0 => rfl
  | k + 1 => by simp [beL, beL_len n k]
theorem pow_dvd (k : Nat) (h : k < 8) : ∃ c : Int, (18446744073709551616 : Int) = 256 ^ k * (256 * c) := by
  have : ∀ k : Fin 8, (18446744073709551616 : Int) = 256 ^ k.1 * (256 * (256 ^ (7 - k.1))) := by decide
  exact ⟨_, this ⟨k, h⟩⟩
theorem byAt_wrap (n : Int) (k : Nat) (h : k < 8) : byAt (n % 18446744073709551616) k = byAt n k := by
  apply by_eq
  rw [byAt_toNat, byAt_toNat]
  obtain ⟨c, hc⟩ := pow_dvd k h
  have hp : (256 : Int) ^ k ≠ 0 := by
    have : (0 : Int) < 256 ^ k := Int.pow_pos (by decide)
    omega
  have e := Int.emod_add_mul_ediv n 18446744073709551616
  generalize n % 18446744073709551616 = r at e ⊢
  generalize n / 18446744073709551616 = q at e
  rw [← e, hc, Int.mul_assoc, Int.add_mul_ediv_left _ _ hp, Int.mul_assoc, Int.add_mul_emod_self_left]
theorem beL_wrap (n : Int) : ∀ k, k ≤ 8 → beL (n % 18446744073709551616) k = beL n k
  | 0, _ => rfl
  | k + 1, h => by rw [beL, beL, byAt_wrap n k (by omega), beL_wrap n k (by omega)]
def kindB (t : T) : UInt8 := byAt (kindOf t) 0
def leafE (t : T) : List UInt8 :=
  kindB t :: (if kindOf t = 2 then [byAt (nOf t) 0] else if kindOf t = 3 then beL (nOf t) 8 else if kindOf t = 4 then beL (sOf t).size 4 ++ (sOf t).data.toList else [])
def nameE (t : T) (k : Nat) : List UInt8 := if kindOf t = 6 then beL (nam t k).size 2 ++ (nam t k).data.toList else []
def catB (g : T → List UInt8) (t : T) : Nat → List UInt8
  | 0 => []
  | k + 1 => catB g t k ++ (nameE t k ++ g (elt t k))
def boxE (t : T) (body : List UInt8) : List UInt8 := kindB t :: (beL body.length 4 ++ body)
def encT : Nat → T → List UInt8
  | 0, t => leafE t
  | m + 1, t => if kindOf t = 5 ∨ kindOf t = 6 then boxE t (catB (encT m) t (nL t)) else leafE t
theorem encT_leaf {m : Nat} {t : T} (h5 : kindOf t ≠ 5) (h6 : kindOf t ≠ 6) : encT m t = leafE t := by
  cases m with
  | zero => rfl
  | succ m => unfold encT; rw [if_neg (by omega)]
theorem encT_box {m : Nat} {t : T} (h : kindOf t = 5 ∨ kindOf t = 6) : encT (m + 1) t = boxE t (catB (encT m) t (nL t)) := by rw [encT, if_pos h]
theorem catB_mono (g : T → List UInt8) (t : T) {k n : Nat} (h : k ≤ n) : (catB g t k).length ≤ (catB g t n).length := by
  induction n with
  | zero => have : k = 0 := by omega
            subst this; exact Nat.le_refl _
  | succ n ih =>
    by_cases e : k = n + 1
    · subst e; exact Nat.le_refl _
    · have := ih (by omega)
      simp only [catB, List.length_append]
      omega
theorem leafE_len {t : T} (h : leafGood t) : (leafE t).length = leafBytes t := by
  obtain ⟨_, _, h⟩ := h
  unfold leafE leafBytes
  rcases h with ⟨h, _⟩ | ⟨h, _⟩ | ⟨h, _⟩ | ⟨h, _⟩ <;> simp [h, beL_len]
  omega
theorem catB_len5 {g : T → List UInt8} {h : T → Nat} {t : T} (h5 : kindOf t ≠ 6) : ∀ k, (∀ i, i < k → (g (elt t i)).length = h (elt t i)) → (catB g t k).length = sumL h t k
  | 0, _ => rfl
  | k + 1, hh => by
    have ih := catB_len5 h5 k (fun i hi => hh i (by omega))
    have hk := hh k (by omega)
    simp only [catB, sumL, nameE, if_neg h5, List.length_append, List.length_nil]
    omega
theorem catB_len6 {g : T → List UInt8} {h : T → Nat} {t : T} (h6 : kindOf t = 6) : ∀ k, (∀ i, i < k → (g (elt t i)).length = h (elt t i)) → (catB g t k).length = sumK t k + sumL h t k
  | 0, _ => rfl
  | k + 1, hh => by
    have ih := catB_len6 h6 k (fun i hi => hh i (by omega))
    have hk := hh k (by omega)
    have e : (nam t k).data.toList.length = (nam t k).size := rfl
    simp only [catB, sumL, sumK, nameE, if_pos h6, List.length_append, beL_len]
    omega
theorem encT_len : ∀ (m : Nat) (t : T), Good m t → (encT m t).length = bytesT m t
  | 0, t, hg => leafE_len hg
  | m + 1, t, hg => by
    rcases hg with hg | ⟨_, _, he, hk⟩
    · have k5 : kindOf t ≠ 5 ∧ kindOf t ≠ 6 := by
        obtain ⟨_, _, h⟩ := hg
        rcases h with ⟨h, _⟩ | ⟨h, _⟩ | ⟨h, _⟩ | ⟨h, _⟩ <;> omega
      unfold encT bytesT
      rw [if_neg (by omega), if_neg k5.1, if_neg k5.2]
      exact leafE_len hg
    · have hi : ∀ i, i < nL t → (encT m (elt t i)).length = bytesT m (elt t i) := fun i hi => encT_len m _ (he i hi)
      unfold encT bytesT
      rcases hk with ⟨k5, _⟩ | ⟨k6, hnk, _⟩
      · rw [if_pos (.inl k5), if_pos k5]
        have := catB_len5 (g := encT m) (h := bytesT m) (by omega) (nL t) hi
        simp only [boxE, List.length_cons, List.length_append, beL_len]
        omega
      · rw [if_pos (.inr k6), if_neg (by omega), if_pos k6, hnk]
        have := catB_len6 (g := encT m) (h := bytesT m) k6 (nL t) hi
        simp only [boxE, List.length_cons, List.length_append, beL_len]
        omega

theorem infoBE : (Tryz.prog.info? 5).map (fun i => (i.zero, i.size, i.bytes)) = some (some (.int .u8 0), 1, 1) := by kernel_rfl
/-- A row of bytes of one's own, and what else was kept since an earlier one. -/
structure QG (w0 : World) (r : Value) (w : World) (r' : Value) (acc : List UInt8) (w' : World) : Prop where
  row : w'.ownsRow w0.heap.size 5 1 r' acc.length (bytesV acc)
  grown : w.grownBy w' r.ownBlock
  own : r'.ownBlock = r.ownBlock ∨ ∃ b, r'.ownBlock = some b ∧ w.heap.size ≤ b
theorem ownBlock_lt {w : World} {lo : Nat} {e : TypeId} {size n : Nat} {v : Value} {xs : List Value} (h : w.ownsRow lo e size v n xs) {b : Nat} (hb : v.ownBlock = some b) : lo ≤ b ∧ b < w.heap.size := by
  rcases h.2 with ⟨rfl, _⟩ | ⟨g, cap, cur, rfl, hb0, hg, rest⟩
  · cases hb
  · have : b = g := by simpa [Value.ownBlock] using hb.symm
    subst this
    exact ⟨hb0, (Array.getElem?_eq_some_iff.1 hg).1⟩
theorem rowE_move {w w' : World} {lo : Nat} {e : TypeId} {size n : Nat} {v : Value} {xs : List Value} (h : w.ownsRow lo e size v n xs) (hb : ∀ b, lo ≤ b → b < w.heap.size → w'.heap[b]? = w.heap[b]?) : w'.ownsRow lo e size v n xs := by
  refine ⟨h.1, ?_⟩
  rcases h.2 with hn | ⟨g, cap, cur, rfl, hb0, hg, rest⟩
  · exact .inl hn
  · exact .inr ⟨g, cap, cur, rfl, hb0, (hb g hb0 (Array.getElem?_eq_some_iff.1 hg).1).trans hg, rest⟩
theorem grown_refl (w : World) (r : Option Nat) : w.grownBy w r := ⟨rfl, rfl, rfl, Nat.le_refl _, fun _ _ _ => rfl⟩
theorem QG.refl {w0 w : World} {r : Value} {acc : List UInt8} (h : w.ownsRow w0.heap.size 5 1 r acc.length (bytesV acc)) : QG w0 r w r acc w := ⟨h, grown_refl w _, .inl rfl⟩
theorem QG.trans {w0 w w1 w2 : World} {r r1 r2 : Value} {a1 a2 : List UInt8} (h : QG w0 r w r1 a1 w1) (k : QG w0 r1 w1 r2 a2 w2) : QG w0 r w r2 a2 w2 := by
  refine ⟨k.row, ⟨k.grown.os.trans h.grown.os, k.grown.tape.trans h.grown.tape, k.grown.output.trans h.grown.output, Nat.le_trans h.grown.size k.grown.size, fun b hb hne => ?_⟩, ?_⟩
  · rw [k.grown.block b (Nat.lt_of_lt_of_le hb h.grown.size) ?_, h.grown.block b hb hne]
    intro e
    rcases h.own with h1 | ⟨c, h1, h2⟩
    · rw [h1] at e; exact hne e
    · rw [h1] at e
      simp only [Option.some.injEq] at e
      omega
  · rcases k.own with k1 | ⟨c, k1, k2⟩
    · rcases h.own with h1 | ⟨c, h1, h2⟩
      · exact .inl (k1.trans h1)
      · exact .inr ⟨c, k1.trans h1, h2⟩
    · exact .inr ⟨c, k1, Nat.le_trans h.grown.size k2⟩
theorem QG.acc {w0 w w1 : World} {r r1 : Value} {a a' : List UInt8} (h : QG w0 r w r1 a w1) (e : a = a') : QG w0 r w r1 a' w1 := e ▸ h
/-- A world that grows alone. -/
theorem QG.keep {w0 w w1 w2 : World} {r r1 : Value} {a1 : List UInt8} (h : QG w0 r w r1 a1 w1) (k : Below w1.heap.size w1 w2) : QG w0 r w r1 a1 w2 :=
  ⟨rowE_move h.row fun b _ h2 => k.block b h2, ⟨k.os.trans h.grown.os, k.tape.trans h.grown.tape, k.output.trans h.grown.output, Nat.le_trans h.grown.size k.size, fun b hb hne => (k.block b (Nat.lt_of_lt_of_le hb h.grown.size)).trans (h.grown.block b hb hne)⟩, h.own⟩
theorem QG.grow {w0 w w1 w2 : World} {r r1 r2 : Value} {acc l : List UInt8} (h : QG w0 r w r1 acc w1) (hO : w2.ownsRow w0.heap.size 5 1 r2 (acc.length + l.length) (bytesV acc ++ bytesV l)) (hG : w1.grownBy w2 r1.ownBlock) (hat : r2.ownBlock = r1.ownBlock ∨ r2.ownBlock = some w1.heap.size) : QG w0 r w r2 (acc ++ l) w2 :=
  h.trans ⟨by rw [List.length_append, bytesV_append]; exact hO, hG, hat.imp id fun h => ⟨_, h, Nat.le_refl _⟩⟩
/-- What lies below the row's base is kept. -/
theorem QG.below {w0 w w1 : World} {r r1 : Value} {a a1 : List UInt8} (h : QG w0 r w r1 a1 w1) (hr : w.ownsRow w0.heap.size 5 1 r a.length (bytesV a)) (hb : Below w0.heap.size w0 w) : Below w0.heap.size w0 w1 :=
  ⟨h.grown.os.trans hb.os, h.grown.tape.trans hb.tape, h.grown.output.trans hb.output, Nat.le_trans hb.size h.grown.size, fun k hk => (h.grown.block k (Nat.lt_of_lt_of_le hk hb.size) (fun e => by have := (ownBlock_lt hr e.symm).1; omega)).trans (hb.block k hk)⟩
/-- The cells of a box that lies behind the row. -/
theorem QG.box {w0 w w1 : World} {r r1 : Value} {a a1 : List UInt8} {c0 c1 c2 c3 c4 : Value} (hr : w.ownsRow w0.heap.size 5 1 r a.length (bytesV a)) (h : QG w0 r (w.alloc (.cells #[c0, c1, c2, c3, c4] 25)) r1 a1 w1) :
    w1.cell? ⟨w.heap.size, 0, none⟩ = some c0 ∧ w1.cell? ⟨w.heap.size, 1, none⟩ = some c1 ∧ w1.cell? ⟨w.heap.size, 2, none⟩ = some c2 ∧ w1.cell? ⟨w.heap.size, 3, none⟩ = some c3 ∧ w1.cell? ⟨w.heap.size, 4, none⟩ = some c4 ∧ w.heap.size < w1.heap.size := by
  have hz := h.grown.size
  have hb : w1.heap[w.heap.size]? = (w.alloc (.cells #[c0, c1, c2, c3, c4] 25)).heap[w.heap.size]? := h.grown.block w.heap.size (by simp) (fun e => by have := (ownBlock_lt hr e.symm).2; omega)
  refine ⟨?_, ?_, ?_, ?_, ?_, by simp at hz; omega⟩
  · rw [World.cell?_of_block (a := ⟨w.heap.size, 0, none⟩) hb]; simp [go_sem]
  · rw [World.cell?_of_block (a := ⟨w.heap.size, 1, none⟩) hb]; simp [go_sem]
  · rw [World.cell?_of_block (a := ⟨w.heap.size, 2, none⟩) hb]; simp [go_sem]
  · rw [World.cell?_of_block (a := ⟨w.heap.size, 3, none⟩) hb]; simp [go_sem]
  · rw [World.cell?_of_block (a := ⟨w.heap.size, 4, none⟩) hb]; simp [go_sem]
theorem builtE_cell (w : World) (l : List UInt8) (j : Nat) (u : Value) (hj : (bytesV l)[j]? = some u) : (w.alloc (.cells (bytesV l).toArray 5)).cell? ((⟨w.heap.size, 0, none⟩ : Addr).add j) = some u := by
  have e0 : (w.alloc (.cells (bytesV l).toArray 5)).heap[w.heap.size]? = some (.cells (bytesV l).toArray 5) := by show (w.heap.push _)[w.heap.size]? = _; simp
  have e1 : ((⟨w.heap.size, 0, none⟩ : Addr).add j) = ⟨w.heap.size, j, none⟩ := by simp [Addr.add]; intro h; exact h.symm
  rw [e1]
  unfold World.cell?
  rw [e0]
  show (if _ then none else (bytesV l).toArray[j]?) = some u
  rw [if_neg (by simp)]
  simpa using hj
theorem srcE_built (w : World) (l : List UInt8) : Src Tryz.prog 1 63 (.slice (some ⟨w.heap.size, 0, none⟩) l.length l.length) l.length (bytesV l) (w.alloc (.cells (bytesV l).toArray 5)) :=
  Src.ofSlice _ Tryz.underlying63 ⟨w.heap.size, 0, none⟩ l.length l.length (bytesV l) (by rw [bytesV_length]; omega) (builtE_cell w l) (fun u hu => by obtain ⟨b, _, rfl⟩ := List.mem_map.1 hu; rfl)
end Go.Proofs.YtknakfpciccoaaaGreatDoor
/- Bytes and values, pure: what was written is read as it was, and what was read is written so. -/
namespace Go.Proofs.YtknakfpciccoaaaGreatDoor
open Go.RowKit

theorem ba_extT {a b : ByteArray} (h : a.data.toList = b.data.toList) : a = b := by
  apply ByteArray.ext
  exact Array.toList_inj.1 h
theorem pre_app (x y : List UInt8) {n : Nat} (h : n = x.length) : pre (baL (x ++ y)) n = baL x := by
  subst h
  apply ba_extT
  simp [pre, baL]
theorem suf_app (x y : List UInt8) {n : Nat} (h : n = x.length) : suf (baL (x ++ y)) n = baL y := by
  subst h
  apply ba_extT
  have e : (baL (x ++ y)).size = x.length + y.length := by rw [baL_size, List.length_append]
  unfold suf
  rw [e]
  simp [baL]
theorem baL_self (s : ByteArray) : baL s.data.toList = s := by
  apply ba_extT
  simp [baL]
/-- A number, out of its bytes. -/
theorem emod_step (n : Int) (k : Nat) : n % 256 ^ (k + 1) = (n / 256 ^ k % 256) * 256 ^ k + n % 256 ^ k := by
  have hp : (0 : Int) < 256 ^ k := Int.pow_pos (by decide)
  rw [Int.pow_succ]
  generalize (256 : Int) ^ k = d at hp ⊢
  have h1 := Int.emod_add_mul_ediv n d
  have h2 := Int.emod_add_mul_ediv (n / d) 256
  have b1 := Int.emod_nonneg n (show d ≠ 0 by omega)
  have b2 := Int.emod_lt_of_pos n hp
  have b3 := Int.emod_nonneg (n / d) (show (256 : Int) ≠ 0 by omega)
  have b4 := Int.emod_lt_of_pos (n / d) (show (0 : Int) < 256 by omega)
  generalize n / d % 256 = r2 at *
  generalize n / d / 256 = q2 at *
  generalize n % d = r at *
  have e : n = (r2 * d + r) + d * 256 * q2 := by
    rw [← h1, ← h2, Int.mul_add, Int.mul_comm d r2, Int.mul_assoc]
    omega
  have m1 : 0 ≤ r2 * d := Int.mul_nonneg b3 (by omega)
  have m2 : r2 * d ≤ 255 * d := Int.mul_le_mul_of_nonneg_right (by omega) (by omega)
  rw [e, Int.add_mul_emod_self_left]
  exact Int.emod_eq_of_lt (by omega) (by omega)
theorem numL_beL (n : Int) : ∀ (k a : Nat), (((beL n k).foldl (fun n c => n * 256 + c.toNat) a : Nat) : Int) = a * 256 ^ k + n % 256 ^ k
  | 0, a => by simp [beL]
  | k + 1, a => by
    rw [beL, List.foldl_cons, numL_beL n k, emod_step]
    have e : ((a * 256 + (byAt n k).toNat : Nat) : Int) = a * 256 + n / 256 ^ k % 256 := by rw [Int.natCast_add, Int.natCast_mul, byAt_toNat]; rfl
    rw [e, Int.add_mul, Int.pow_succ, Int.mul_assoc, Int.mul_comm 256 (256 ^ k)]
    omega
theorem numB_beL (n : Int) (k : Nat) : (numB (baL (beL n k)) : Int) = n % 256 ^ k := by
  have := numL_beL n k 0
  unfold numB numL
  rw [baL_list, this]
  simp
theorem numB_size (k b : Nat) (h : k < 256 ^ b) : numB (baL (beL (k : Int) b)) = k := by
  have h1 := numB_beL (k : Int) b
  have e : ((256 ^ b : Nat) : Int) = (256 : Int) ^ b := Int.natCast_pow 256 b
  have h2 : (k : Int) < (256 : Int) ^ b := by rw [← e]; exact Int.ofNat_lt.2 h
  rw [Int.emod_eq_of_lt (by omega) h2] at h1
  exact Int.ofNat.inj h1
theorem szB_app (x : ByteArray) (r : List UInt8) (b : Nat) (h : x.size < 256 ^ b) : szB (baL (beL (x.size : Int) b ++ (x.data.toList ++ r))) b = some (x, baL r) := by
  have e1 : pre (baL (beL (x.size : Int) b ++ (x.data.toList ++ r))) b = baL (beL (x.size : Int) b) := pre_app _ _ (by rw [beL_len])
  have e2 : suf (baL (beL (x.size : Int) b ++ (x.data.toList ++ r))) b = baL (x.data.toList ++ r) := suf_app _ _ (by rw [beL_len])
  have e3 : pre (baL (x.data.toList ++ r)) x.size = x := (pre_app _ _ rfl).trans (baL_self x)
  have e4 : suf (baL (x.data.toList ++ r)) x.size = baL r := suf_app _ _ rfl
  have hs : x.data.toList.length = x.size := rfl
  unfold szB
  rw [e1, e2, numB_size _ _ h, e3, e4, if_neg (by rw [baL_size, List.length_append, beL_len]; omega), if_neg (by rw [baL_size, List.length_append, hs]; omega)]

/-- A value, as it comes out of bytes. -/
def canT : Nat → T → T
  | 0, t => mkT (kindOf t) (nOf t) (sOf t) [] []
  | m + 1, t => mkT (kindOf t) (nOf t) (sOf t) ((lOf t).map (canT m)) (kOf t)
theorem canT_kind (m : Nat) (t : T) : kindOf (canT m t) = kindOf t := by cases m <;> rfl
theorem canT_n (m : Nat) (t : T) : nOf (canT m t) = nOf t := by cases m <;> rfl
theorem canT_s (m : Nat) (t : T) : sOf (canT m t) = sOf t := by cases m <;> rfl
theorem canT_nL (m : Nat) (t : T) : nL (canT (m + 1) t) = nL t := by unfold nL; rw [canT, lOf_mk, List.length_map]
theorem canT_kOf (m : Nat) (t : T) : kOf (canT (m + 1) t) = kOf t := by rw [canT, kOf_mk]
theorem canT_nK (m : Nat) (t : T) : nK (canT (m + 1) t) = nK t := by unfold nK; rw [canT_kOf]
theorem canT_nam (m : Nat) (t : T) : nam (canT (m + 1) t) = nam t := by funext i; unfold nam; rw [canT_kOf]
theorem canT_elt (m : Nat) (t : T) {i : Nat} (h : i < nL t) : elt (canT (m + 1) t) i = canT m (elt t i) := by
  have h' : i < (lOf t).length := h
  unfold elt
  rw [canT, lOf_mk]
  simp [List.getD_eq_getElem?_getD, h']
theorem nil_of {α : Type} {l : List α} (h : l.length = 0) : l = [] := List.eq_nil_of_length_eq_zero h
theorem canT_leaf (m : Nat) {t : T} (h : nL t = 0) (k : nK t = 0) : canT m t = leafT (kindOf t) (nOf t) (sOf t) := by
  cases m with
  | zero => rfl
  | succ m =>
    have h1 : lOf t = [] := nil_of h
    have h2 : kOf t = [] := nil_of k
    rw [canT, h1, h2]
    rfl
end Go.Proofs.YtknakfpciccoaaaGreatDoor
/- Bytes and values, pure: what was written is read as it was. -/
namespace Go.Proofs.YtknakfpciccoaaaGreatDoor
open Go.RowKit

theorem byAt_small {n : Int} (h0 : 0 ≤ n) (h1 : n < 256) : (byAt n 0).toNat = n.toNat := by
  have := byAt_toNat n 0
  simp only [Int.pow_zero, Int.ediv_one] at this
  omega
theorem numB_one (c : UInt8) : numB (baL [c]) = c.toNat := by simp [numB, numL, baL]
/-- The first byte, and the rest. -/
theorem head_app (c : UInt8) (y : List UInt8) : pre (baL (c :: y)) 1 = baL [c] ∧ suf (baL (c :: y)) 1 = baL y ∧ ¬ (baL (c :: y)).size < 1 := by
  refine ⟨pre_app [c] y rfl, suf_app [c] y rfl, ?_⟩
  rw [baL_size, List.length_cons]
  omega
theorem kind_num {t : T} (h0 : 0 ≤ kindOf t) (h1 : kindOf t < 256) (y : List UInt8) : (numB (pre (baL (kindB t :: y)) 1) : Int) = kindOf t := by
  rw [(head_app _ _).1, numB_one]
  have := byAt_small h0 h1
  unfold kindB
  omega
theorem wrap_back {n : Int} (h0 : -9223372036854775808 ≤ n) (h1 : n ≤ 9223372036854775807) : IntKind.i64.wrap (numB (baL (beL n 8)) : Int) = n := by
  rw [numB_beL, IntKind.wrap_i64]
  have : (256 : Int) ^ 8 = 18446744073709551616 := by decide
  rw [this]
  omega
theorem dec_leaf (c : Bool) (b : Option (ByteArray → Option (T × ByteArray))) {t : T} (hg : leafGood t) (hf : Fits t) (r : List UInt8) : stepD c b (baL (leafE t ++ r)) = some (leafT (kindOf t) (nOf t) (sOf t), baL r) := by
  obtain ⟨_, _, hg⟩ := hg
  have hs : (sOf t).data.toList.length = (sOf t).size := rfl
  rcases hg with ⟨hk, hn, ht⟩ | ⟨hk, hn, ht⟩ | ⟨hk, ht⟩ | ⟨hk, hn, hz, _⟩
  · have e : leafE t ++ r = kindB t :: r := by unfold leafE; rw [if_neg (by omega), if_neg (by omega), if_neg (by omega)]; rfl
    have hkn := kind_num (t := t) (by omega) (by omega) r
    obtain ⟨h1, h2, h3⟩ := head_app (kindB t) r
    rw [e]
    unfold stepD
    rw [if_neg h3, if_pos (by omega), h2, hk, hn, noText_eq ht]
  · have e : leafE t ++ r = kindB t :: (byAt (nOf t) 0 :: r) := by unfold leafE; rw [if_pos hk]; rfl
    have hkn := kind_num (t := t) (by omega) (by omega) (byAt (nOf t) 0 :: r)
    obtain ⟨h1, h2, h3⟩ := head_app (kindB t) (byAt (nOf t) 0 :: r)
    obtain ⟨h4, h5, h6⟩ := head_app (byAt (nOf t) 0) r
    have hb := byAt_small (n := nOf t) (by omega) (by omega)
    rw [e]
    unfold stepD
    rw [if_neg h3, if_neg (by omega), if_pos (by omega), h2, if_neg h6, h4, numB_one, if_neg (by omega), h5, hk, noText_eq ht]
    congr 3
    omega
  · have e : leafE t ++ r = kindB t :: (beL (nOf t) 8 ++ r) := by unfold leafE; rw [if_neg (by omega), if_pos hk]; rfl
    have hkn := kind_num (t := t) (by omega) (by omega) (beL (nOf t) 8 ++ r)
    obtain ⟨h1, h2, h3⟩ := head_app (kindB t) (beL (nOf t) 8 ++ r)
    have h4 : pre (baL (beL (nOf t) 8 ++ r)) 8 = baL (beL (nOf t) 8) := pre_app _ _ (by rw [beL_len])
    have h5 : suf (baL (beL (nOf t) 8 ++ r)) 8 = baL r := suf_app _ _ (by rw [beL_len])
    have h6 : ¬ (baL (beL (nOf t) 8 ++ r)).size < 8 := by rw [baL_size, List.length_append, beL_len]; omega
    rw [e]
    unfold stepD
    rw [if_neg h3, if_neg (by omega), if_neg (by omega), if_pos (by omega), h2, if_neg h6, h4, h5, wrap_back hf.n0 hf.n1, hk, noText_eq ht]
  · have e : leafE t ++ r = kindB t :: (beL (sOf t).size 4 ++ ((sOf t).data.toList ++ r)) := by unfold leafE; rw [if_neg (by omega), if_neg (by omega), if_pos hk]; simp
    have hkn := kind_num (t := t) (by omega) (by omega) (beL (sOf t).size 4 ++ ((sOf t).data.toList ++ r))
    obtain ⟨h1, h2, h3⟩ := head_app (kindB t) (beL (sOf t).size 4 ++ ((sOf t).data.toList ++ r))
    rw [e]
    unfold stepD
    rw [if_neg h3, if_neg (by omega), if_neg (by omega), if_neg (by omega), if_pos (by omega), h2, szB_app _ _ _ (by omega), hk, hn]
    rfl
/-- What follows from an entry on. -/
def restB (g : T → List UInt8) (t : T) : Nat → Nat → List UInt8
  | _, 0 => []
  | k, j + 1 => nameE t k ++ (g (elt t k) ++ restB g t (k + 1) j)
theorem catB_rest (g : T → List UInt8) (t : T) : ∀ j k, catB g t k ++ restB g t k j = catB g t (k + j)
  | 0, k => by simp [restB]
  | j + 1, k => by
    have := catB_rest g t j (k + 1)
    rw [restB, show k + (j + 1) = k + 1 + j by omega, ← this, catB]
    simp
theorem dropC {α : Type} {l : List α} {k : Nat} {d : α} (h : k < l.length) : l.drop k = l.getD k d :: l.drop (k + 1) := by
  rw [List.drop_eq_getElem_cons h]
  simp [List.getD_eq_getElem?_getD, h]
theorem ents_rest {f : ByteArray → Option (T × ByteArray)} {g : T → List UInt8} {c : T → T} {t : T} (hf : ∀ i, i < nL t → ∀ r, f (baL (g (elt t i) ++ r)) = some (c (elt t i), baL r)) (hg : ∀ i, i < nL t → 1 ≤ (g (elt t i)).length)
    (h6 : kindOf t = 6 → nK t = nL t ∧ ∀ i, i < nK t → (nam t i).size < 65536) :
    ∀ j k n, k + j = nL t → (restB g t k j).length ≤ n → ents f (kindOf t == 6) n (baL (restB g t k j)) = some (if kindOf t = 6 then (kOf t).drop k else [], ((lOf t).drop k).map c)
  | 0, k, n, hk, hn => by
    have h1 : (lOf t).drop k = [] := List.drop_eq_nil_of_le (by show nL t ≤ k; omega)
    have h2 : kindOf t = 6 → (kOf t).drop k = [] := fun h => List.drop_eq_nil_of_le (by show nK t ≤ k; have := (h6 h).1; omega)
    have h3 : (if kindOf t = 6 then (kOf t).drop k else []) = [] := by split <;> first | exact h2 ‹_› | rfl
    rw [h1, h3]
    cases n <;> rfl
  | j + 1, k, n, hk, hn => by
    have hkl : k < nL t := by omega
    have h0 := hg k hkl
    simp only [restB, List.length_append] at hn
    obtain ⟨n, rfl⟩ : ∃ m, n = m + 1 := ⟨n - 1, by omega⟩
    have ih := ents_rest hf hg h6 j (k + 1) n (by omega) (by omega)
    have hsz : ¬ (baL (restB g t k (j + 1))).size = 0 := by rw [baL_size]; simp only [restB, List.length_append]; omega
    have eL : (lOf t).drop k = elt t k :: (lOf t).drop (k + 1) := dropC hkl
    unfold ents
    rw [if_neg hsz]
    by_cases k6 : kindOf t = 6
    · have e6 : (kindOf t == 6) = true := by simpa using k6
      have hkk : k < nK t := by have := (h6 k6).1; omega
      have eK : (kOf t).drop k = nam t k :: (kOf t).drop (k + 1) := dropC hkk
      have e1 : restB g t k (j + 1) = beL (nam t k).size 2 ++ ((nam t k).data.toList ++ (g (elt t k) ++ restB g t (k + 1) j)) := by rw [restB, nameE, if_pos k6]; simp
      rw [e6] at ih ⊢
      rw [e1, if_pos rfl, szB_app _ _ _ ((h6 k6).2 k hkk)]
      simp only [Option.bind_some]
      rw [hf k hkl]
      simp only [Option.bind_some]
      rw [ih, eL, eK]
      simp [k6]
    · have e6 : (kindOf t == 6) = false := by simpa using k6
      have e1 : restB g t k (j + 1) = g (elt t k) ++ restB g t (k + 1) j := by rw [restB, nameE, if_neg k6]; rfl
      rw [e6] at ih ⊢
      rw [e1]
      simp only [Bool.false_eq_true, if_false, Option.bind_some]
      rw [hf k hkl]
      simp only [Option.bind_some]
      rw [ih, eL]
      simp [k6]
theorem encT_pos (m : Nat) (t : T) : 1 ≤ (encT m t).length := by
  cases m with
  | zero => simp [encT, leafE]
  | succ m => unfold encT; split <;> simp [boxE, leafE]
theorem elt_len {g : T → List UInt8} {t : T} {i n : Nat} (h : i < n) : (g (elt t i)).length ≤ (catB g t n).length := by
  have := catB_mono g t (show i + 1 ≤ n from h)
  simp only [catB, List.length_append] at this
  omega
theorem nam_le {t : T} : ∀ k, namesF t k = true → ∀ i, i < k → (nam t i).size ≤ 4000
  | 0, _, i, hi => absurd hi (by omega)
  | k + 1, h, i, hi => by
    simp only [namesF, Bool.and_eq_true, decide_eq_true_eq] at h
    by_cases e : i = k
    · subst e; exact h.2.2
    · exact nam_le k h.1 i (by omega)
theorem dec_enc {w : World} : ∀ (m f : Nat) (v : Value) (t : T), At w f v t → Good m t → (encT m t).length ≤ 100000000 → ∀ r, decP m (baL (encT m t ++ r)) = some (canT m t, baL r)
  | 0, f, v, t, h, hg, _, r => by
    obtain ⟨_, La, Ka, Lc, Kc, _, _, hf, _⟩ := h.open
    rw [canT_leaf 0 hg.1 hg.2.1]
    exact dec_leaf false none hg hf r
  | m + 1, f, v, t, h, hg, hl, r => by
    obtain ⟨g, La, Ka, Lc, Kc, _, _, hf, he, _⟩ := h.open
    rcases hg with hg | ⟨hn, ht, hgi, hk⟩
    · have k5 : kindOf t ≠ 5 ∧ kindOf t ≠ 6 := by
        obtain ⟨_, _, h⟩ := hg
        rcases h with ⟨h, _⟩ | ⟨h, _⟩ | ⟨h, _⟩ | ⟨h, _⟩ <;> omega
      rw [canT_leaf (m + 1) hg.1 hg.2.1, encT_leaf k5.1 k5.2]
      exact dec_leaf false (some (decP m)) hg hf r
    · have hk2 : kindOf t = 5 ∨ kindOf t = 6 := by rcases hk with ⟨hk, _⟩ | ⟨hk, _⟩ <;> omega
      have h6 : kindOf t = 6 → nK t = nL t ∧ ∀ i, i < nK t → (nam t i).size < 65536 := fun h6 => by
        rcases hk with ⟨hk, _⟩ | ⟨_, hk, hnf, _⟩
        · omega
        · exact ⟨hk, fun i hi => by have := nam_le _ hnf i hi; omega⟩
      have h5 : kindOf t = 5 → kOf t = [] := fun h5 => by
        rcases hk with ⟨_, hk⟩ | ⟨hk, _⟩
        · exact nil_of hk
        · omega
      rw [encT_box hk2] at hl ⊢
      have hlb : (catB (encT m) t (nL t)).length + 5 ≤ 100000000 := by simp only [boxE, List.length_cons, List.length_append, beL_len] at hl; omega
      have hr := ents_rest (f := decP m) (g := encT m) (c := canT m) (t := t) (fun i hi r => by
          obtain ⟨b, o, c0, c1, c2, c3, c4, _, _, _, _, _, _, _, ha⟩ := he.out i hi
          exact dec_enc m g _ _ ha.out (hgi i hi) (by have := elt_len (g := encT m) (t := t) hi; omega) r)
        (fun i _ => encT_pos m _) h6 (nL t) 0 (catB (encT m) t (nL t)).length (by omega) (by have := catB_rest (encT m) t (nL t) 0; simp only [catB, List.nil_append, Nat.zero_add] at this; rw [this]; exact Nat.le_refl _)
      have hc : restB (encT m) t 0 (nL t) = catB (encT m) t (nL t) := by have := catB_rest (encT m) t (nL t) 0; simpa [catB] using this
      rw [hc] at hr
      generalize catB (encT m) t (nL t) = body at *
      have hkn := kind_num (t := t) (by omega) (by omega) (beL body.length 4 ++ (body ++ r))
      obtain ⟨h1, h2, h3⟩ := head_app (kindB t) (beL body.length 4 ++ (body ++ r))
      have e : boxE t body ++ r = kindB t :: (beL body.length 4 ++ (body ++ r)) := by simp [boxE]
      have hz : szB (baL (beL body.length 4 ++ (body ++ r))) 4 = some (baL body, baL r) := by
        have := szB_app (baL body) r 4 (by rw [baL_size]; omega)
        rw [baL_size, baL_list] at this
        exact this
      have h66 : (numB (pre (baL (kindB t :: (beL body.length 4 ++ (body ++ r)))) 1) == 6) = (kindOf t == 6) := by
        by_cases k6 : kindOf t = 6
        · have : numB (pre (baL (kindB t :: (beL body.length 4 ++ (body ++ r)))) 1) = 6 := by omega
          rw [this, k6]; rfl
        · have : numB (pre (baL (kindB t :: (beL body.length 4 ++ (body ++ r)))) 1) ≠ 6 := by omega
          rw [beq_eq_false_iff_ne.2 this, beq_eq_false_iff_ne.2 k6]
      rw [e]
      unfold decP stepD
      rw [if_neg h3, if_neg (by omega), if_neg (by omega), if_neg (by omega), if_neg (by omega), if_pos (by omega), h2]
      simp only [Option.bind_some]
      rw [hz]
      simp only [Option.bind_some]
      rw [h66, baL_size, hr]
      simp only [Option.bind_some, List.drop_zero]
      rw [canT, hn, noText_eq ht]
      congr 3
      split
      · rfl
      · exact (h5 (by omega)).symm
end Go.Proofs.YtknakfpciccoaaaGreatDoor
/- The walks of the checker: values, and a value. -/
namespace Go.Proofs.YtknakfpciccoaaaGreatDoor
open Go.RowKit

/-- The contract of a value, so deep. -/
def ChkSaid (Tb : World → Prop) (c : Nat) (w0 : World) (m : Nat) : Prop := ∀ (f : Nat) (v : Value) (t : T) (l : Int) (w : World),
  At w0 f v t → Below w0.heap.size w0 w → Holds c l w → Tb w → 0 ≤ l → l ≤ 1048576 →
    Calls Tryz.prog 73 #[.pointer (some ⟨c, 0, none⟩), v, .int .i64 (12 - (m : Int))] w fun e w' => ChkPost c w (chkT m t l) e w'

set_option maxHeartbeats 1000000 in
theorem values_any {Tb : World → Prop} (c : Nat) (hS : Stays Tb c) (w0 : World) (hN : w0.heap.size ≤ c) (m : Nat) (ih : ChkSaid Tb c w0 m) (f : Nat) (La : Option Addr) (Lc : Nat) (t : T) (l : Int) (w : World)
    (hl : ElemsAt w0 f La t) (hn : nL t ≤ 1759218604442) (hb0 : Below w0.heap.size w0 w) (h : Holds c l w) (hT : Tb w) (l0 : 0 ≤ l) (l1 : l ≤ 1048576) :
    Calls Tryz.prog 123 #[.pointer (some ⟨c, 0, none⟩), .slice La (nL t) Lc, .int .i64 (12 - (m : Int))] w fun e w' => ChkPost c w (valuesL (chkT m) t (nL t) l) e w' := by
  have H := hid h
  have HT := hid hT
  have Hl := hid hl
  have Hb0 := hid hb0
  have Hih := hid ih
  clear h hT hl hb0 ih
  go_enter Tryz.func123, Tryz.ntmps123
  go_wp2_with fail
  go_loopg [11] (nL t) (fun g i wr => ∃ (k : Nat) (x : Int), g = nL t - k ∧ k ≤ nL t ∧ i = .int .i64 k ∧ 0 ≤ x ∧ x ≤ 1048576 ∧ Hid (valuesL (chkT m) t k l = some x) ∧ Hid (Holds c x wr) ∧ Hid (But c w wr))
  case atStart => exact ⟨0, l, rfl, Nat.zero_le _, rfl, l0, l1, rfl, H, But.refl _ _⟩
  case round =>
    obtain ⟨k, x, rfl, hk1, rfl, x0, x1, HX, HH, HB⟩ := hrel
    have Hbr := hid (Hb0.out.trans ((HB.out.below (Nat.le_of_lt H.out.lt)).mono hN))
    by_cases hlt : k < nL t
    · obtain ⟨b, o, A, B, C, D, rfl, hbl, p0, p1, p2, p3, p4, Ha⟩ := Hl.out.shape Hbr.out k hlt
      go_wp2_with fail
      have B1 : Below wr.heap.size wr (wr.alloc (.cells #[.int .i64 (kindOf (elt t k)), .int .i64 (nOf (elt t k)), .string (sOf (elt t k)), .slice A (nL (elt t k)) B, .slice C (nK (elt t k)) D] 25)) := (Below.refl _ _).alloc (Nat.le_refl _) _
      have HB1 := hid B1
      clear B1
      refine (Hih.out f _ (elt t k) x _ Ha.out (Hbr.out.trans (HB1.out.mono (Nat.le_trans hN (Nat.le_of_lt HH.out.lt)))) (HH.out.keep HB1.out) (hS _ _ (hS _ _ HT.out (HB.out.below (Nat.le_of_lt H.out.lt))) (HB1.out.mono (Nat.le_of_lt HH.out.lt))) x0 x1).mono ?_
      rintro e w2 ⟨B2, l', K2, hr⟩
      have HB2 := hid ((But.of HB1.out).trans B2)
      have HK2 := hid K2
      clear B2 K2
      have step : valuesL (chkT m) t (k + 1) l = chkT m (elt t k) x := by
        show (valuesL (chkT m) t k l).bind (chkT m (elt t k)) = _
        rw [HX.out]
        rfl
      have Hst := hid step
      clear step
      rcases hr with ⟨hr, y0, y1, rfl⟩ | ⟨hr, rfl⟩
      · have Hr := hid hr
        clear hr
        go_wp2_with fail
        go_roundg (nL t - (k + 1))
        case rel => exact ⟨k + 1, l', rfl, by omega, by go_num, y0, y1, Hst.out.trans Hr.out, HK2, HB.out.trans HB2.out⟩
        case measure => omega
      · have Hr := hid hr
        clear hr
        go_wp2_with fail
        go_ret
        exact ⟨HB.out.trans HB2.out, l', HK2.out, Or.inr ⟨valuesL_none hlt (Hst.out.trans Hr.out), rfl⟩⟩
    · obtain rfl : k = nL t := by omega
      go_wp2_with fail
      go_ret
      exact ⟨HB.out, x, HH.out, Or.inl ⟨HX.out, x0, x1, rfl⟩⟩
end Go.Proofs.YtknakfpciccoaaaGreatDoor
