import Derived.WalkKit
import Derived.Test.YtknakfpciccoaaaDoorZO27
/- append to a slice of the call's own: in its place, or in a new one while the old one stays. -/
namespace Go.Proofs.YtknakfpciccoaaaDoor
open Go.RowKit
theorem run_append_two {P : Program} (w : World) (base : Nat) (t ty e : TypeId) (i : TypeInfo) (z : Value) (size bytes : Nat) (ht : P.underlying t = some (.slice e)) (hi : P.info? e = some i) (hz : i.zero = some z)
    (hsize : i.size = size) (hby : i.bytes = bytes) (hzs : z.cells.size = size) (hsz : 0 < size)
    (v : Value) (n : Nat) (xs : List Value) (hown : w.ownsRow base e size v n xs)
    (a : Addr) (m c : Nat) (news : List Value) (hl : news.length = m * size) (hnews : ∀ j u, news[j]? = some u → w.cell? (a.add j) = some u) (h1 : ∀ u ∈ news, u.oneCell' = true)
    (hm : 0 < m) (h63 : n + m ≤ maxLen) (hbytes : (n + m) * bytes ≤ 140737488355328) (hbase : base ≤ w.heap.size) :
    ∃ g cap w', (Builtin.append_ #[t, t] ty #[v, .slice (some a) m c]).run P w = .ok (.slice (some ⟨g, 0, none⟩) (n + m) cap) w' ∧ w'.ownsRow base e size (.slice (some ⟨g, 0, none⟩) (n + m) cap) (n + m) (xs ++ news) ∧
      ((v = .slice (some ⟨g, 0, none⟩) n cap ∧ w.grownBy w' (some g)) ∨ (w.heap.size ≤ g ∧ w.grownBy w' none)) := by
  obtain ⟨v', w', hr, ho, hg, hn⟩ := run_append_own (P := P) w base t ty e i z size bytes ht hi hz hsize hby hzs hsz v n xs hown a m c news hl hnews h1 h63 hbytes hbase
  have hsh : ∃ g cap, v' = .slice (some ⟨g, 0, none⟩) (n + m) cap := by
    rcases ho.2 with ⟨_, h⟩ | ⟨g, cap, _, h, _⟩
    · omega
    · exact ⟨g, cap, h⟩
  obtain ⟨g', cap', rfl⟩ := hsh
  refine ⟨g', cap', w', hr, ho, ?_⟩
  rcases hown.2 with ⟨rfl, rfl⟩ | ⟨g, cap, cur, rfl, hbg, hgc, hnc, hcm, hcs, htake⟩
  · right
    obtain ⟨v2, w2, hr2, ho2, hg2, _⟩ := run_append_own (P := P) w w.heap.size t ty e i z size bytes ht hi hz hsize hby hzs hsz (.slice none 0 0) 0 xs ⟨hown.1, .inl ⟨rfl, rfl⟩⟩ a m c news hl hnews h1 h63 hbytes (Nat.le_refl _)
    rw [hr] at hr2
    cases hr2
    exact ⟨(ho2.lt g' rfl).1, hg⟩
  · by_cases hroom : n + m ≤ cap
    · left
      subst hsize
      have hfit : n * i.size + news.length ≤ cur.size := by rw [hl, hcs, ← Nat.add_mul]; exact Nat.mul_le_mul_right _ hroom
      have hr2 := run_append_room (P := P) w t ty e i ht hi g n cap cur hgc a m c news hl hnews h1 hroom hfit
      rw [hr] at hr2
      cases hr2
      exact ⟨rfl, hg⟩
    · right
      subst hsize
      subst hby
      have hsmall : n + m ≤ 9223372036854775807 := by simp only [maxLen] at h63; omega
      have hr2 := run_append_grow (P := P) w t ty e i z ht hi hz ⟨g, 0, none⟩ n cap xs hown.1 (hown.cells (g := g) rfl) a m c news hl hnews (by omega) (by omega) (growslice_fits (by omega) hbytes)
      rw [hr] at hr2
      cases hr2
      exact ⟨Nat.le_refl _, ⟨rfl, rfl, rfl, by simp, fun k hk _ => Below.heap_alloc w.drew _ k hk⟩⟩
theorem wpList_append_two {P : Program} (w : World) {ops : Array Oper} {rest : List Oper} {o : Oper} {a : Act} {Q : Exit → Act → World → Prop} (hgd : o.guard = none) (s x : Operand) (t : TypeId)
    (ho : o.op = .call { callee := .builtin .append, args := #[s, x], argTypes := #[t, t] })
    (base : Nat) (e : TypeId) (i : TypeInfo) (z : Value) (size bytes : Nat) (ht : P.underlying t = some (.slice e)) (hi : P.info? e = some i) (hz : i.zero = some z)
    (hsize : i.size = size) (hby : i.bytes = bytes) (hzs : z.cells.size = size) (hsz : 0 < size)
    (v : Value) (n : Nat) (xs : List Value) (hs : a.eval s = v) (hown : w.ownsRow base e size v n xs)
    (ad : Addr) (m c : Nat) (news : List Value) (hx : a.eval x = .slice (some ad) m c) (hl : news.length = m * size) (hnews : ∀ j u, news[j]? = some u → w.cell? (ad.add j) = some u) (h1 : ∀ u ∈ news, u.oneCell' = true)
    (hm : 0 < m) (h63 : n + m ≤ maxLen) (hbytes : (n + m) * bytes ≤ 140737488355328) (hbase : base ≤ w.heap.size)
    (h : ∀ g cap w', w'.ownsRow base e size (.slice (some ⟨g, 0, none⟩) (n + m) cap) (n + m) (xs ++ news) → ((v = .slice (some ⟨g, 0, none⟩) n cap ∧ w.grownBy w' (some g)) ∨ (w.heap.size ≤ g ∧ w.grownBy w' none)) → wpList P ops Q rest (a.put o.dst (.slice (some ⟨g, 0, none⟩) (n + m) cap)) w') : wpList P ops Q (o :: rest) a w :=
  wpList_plain hgd fun K hK => by
    obtain ⟨g, cap, w', hr, h2, h3⟩ := run_append_two (P := P) w base t o.type e i z size bytes ht hi hz hsize hby hzs hsz v n xs hown ad m c news hl hnews h1 hm h63 hbytes hbase
    unfold Oper.wp execOp
    simp only [ho, resolve, invoke, builtin, Sem.run_bind, Sem.run_pure, Result.andThen_ok, List.map_toArray, List.map_cons, List.map_nil, hs, hx, hr]
    exact hK _ _ (h g cap w' h2 h3)
end Go.Proofs.YtknakfpciccoaaaDoor
/- Rows with marks: those that are written over, and those that are only read. -/
namespace Go.Proofs.YtknakfpciccoaaaDoor
open Go.RowKit

/-- The cells of a mark; of a marked name. -/
def mc (n : Nat) : Nat → Value
  | 0 => .int .i64 (-(n : Int))
  | 1 => .int .i64 0
  | 2 => .string mark3
  | _ => .slice none 0 0
def nc (n : Nat) : Nat → Value := fun _ => .string (nameB n)
theorem blk_apart : ∀ {es : List Ent}, (blks es).Nodup → ∀ {i j : Nat} {a b : Ent}, es[i]? = some a → es[j]? = some b → i ≠ j → ∀ x, x ∈ blk a → x ∈ blk b → False
  | [], _, i, j, a, b, ha, _, _, _, _, _ => by simp at ha
  | e :: es, hn, i, j, a, b, ha, hb, hij, x, hxa, hxb => by
    have hn' : (blk e ++ blks es).Nodup := by simpa [blks] using hn
    have hmem : ∀ {k : Nat} {c : Ent}, es[k]? = some c → x ∈ blk c → x ∈ blks es := fun {k c} hc hx => by
      unfold blks
      rw [List.mem_flatMap]
      exact ⟨c, List.mem_of_getElem? hc, hx⟩
    cases i with
    | zero =>
      cases j with
      | zero => exact hij rfl
      | succ j =>
        simp at ha hb
        subst ha
        exact nodup_apart hn' hxa (hmem hb hxb)
    | succ i =>
      cases j with
      | zero =>
        simp at ha hb
        subst hb
        exact nodup_apart hn' hxb (hmem ha hxa)
      | succ j =>
        simp at ha hb
        exact blk_apart (List.nodup_append.1 hn').2.1 ha hb (by omega) x hxa hxb
theorem blk_self : ∀ {es : List Ent}, (blks es).Nodup → ∀ {i : Nat} {a : Ent}, es[i]? = some a → (blk a).Nodup
  | [], _, i, a, ha => by simp at ha
  | e :: es, hn, i, a, ha => by
    have hn' : (blk e ++ blks es).Nodup := by simpa [blks] using hn
    cases i with
    | zero => simp at ha; subst ha; exact (List.nodup_append.1 hn').1
    | succ i => simp at ha; exact blk_self (List.nodup_append.1 hn').2.1 ha
/-- How many elements are marked. -/
def cnt (i k j n : Nat) : Nat := if j < i then n else if j = i then k else 0
/-- The rows of a value while they are written over. -/
structure MS (lo b : Nat) (w : World) (es : List Ent) (n : Nat) (vs ns : Value) (i kL kK : Nat) (wr : World) : Prop where
  own : OwnR b vs ns 0 es wr
  fullL : ∀ (j : Nat) (e : Ent), es[j]? = some e → Full wr eV 5 e.l e.n (cnt i kL j e.n) (mc (n + j))
  fullK : ∀ (j : Nat) (e : Ent), es[j]? = some e → Full wr eS 1 e.k e.m (cnt i kK j e.m) (nc (n + j))
  bel : Below lo w wr
  nodup : (blks es).Nodup
  lies : ∀ x ∈ blks es, lo ≤ x ∧ x < b
theorem mem_blks {es : List Ent} {j : Nat} {e : Ent} (h : es[j]? = some e) {x : Nat} (hx : x ∈ blk e) : x ∈ blks es := by
  unfold blks
  rw [List.mem_flatMap]
  exact ⟨e, List.mem_of_getElem? h, hx⟩
/-- A world that differs in one of these blocks alone. -/
theorem OwnR.other {b : Nat} {vs ns : Value} {n : Int} {E : List Ent} {w w' : World} (h : OwnR b vs ns n E w) {g : Nat} (hg : g < b) (hs : w.heap.size ≤ w'.heap.size) (hb : ∀ k, k ≠ g → w'.heap[k]? = w.heap[k]?) : OwnR b vs ns n E w' :=
  ⟨h.box.move hs (hb _ (by omega)), own_move h.rowL fun k e => hb k (by have := (h.rowL.lt k e).1; omega), own_move h.rowK fun k e => hb k (by have := (h.rowK.lt k e).1; omega)⟩
section
variable {lo b : Nat} {w : World} {es : List Ent} {n : Nat} {vs ns : Value} {i kL kK : Nat} {wr : World}
theorem MS.storeL (h : MS lo b w es n vs ns i kL kK wr) {e : Ent} (he : es[i]? = some e) {g cap : Nat} (hl : e.l = .slice (some ⟨g, 0, none⟩) e.n cap) (hk : kL < e.n) :
    MS lo b w es n vs ns i (kL + 1) kK (set5 wr g (kL * 5) (mc (n + i) 0) (mc (n + i) 1) (mc (n + i) 2) (mc (n + i) 3) (mc (n + i) 4)) := by
  have hgm : g ∈ blk e := by simp [blk, hl, Value.ownBlock]
  have hlie := h.lies g (mem_blks he hgm)
  have hset : ∀ k, k ≠ g → (set5 wr g (kL * 5) (mc (n + i) 0) (mc (n + i) 1) (mc (n + i) 2) (mc (n + i) 3) (mc (n + i) 4)).heap[k]? = wr.heap[k]? := fun k hk => by
    unfold set5
    rw [Below.heap_setCell _ _ _ _ (by simpa using hk), Below.heap_setCell _ _ _ _ (by simpa using hk), Below.heap_setCell _ _ _ _ (by simpa using hk), Below.heap_setCell _ _ _ _ (by simpa using hk), Below.heap_setCell _ _ _ _ (by simpa using hk)]
  have hsz : (set5 wr g (kL * 5) (mc (n + i) 0) (mc (n + i) 1) (mc (n + i) 2) (mc (n + i) 3) (mc (n + i) 4)).heap.size = wr.heap.size := by simp [set5, World.setCell]
  refine ⟨h.own.other hlie.2 (by omega) hset, fun j a ha => ?_, fun j a ha => ?_, ?_, h.nodup, h.lies⟩
  · by_cases hj : j = i
    · subst hj
      rw [he] at ha
      cases ha
      have hf := h.fullL j e he
      simp only [cnt, Nat.lt_irrefl, if_false, if_true] at hf ⊢
      rw [hl] at hf ⊢
      exact hf.store5 hk
    · have e1 : cnt i (kL + 1) j a.n = cnt i kL j a.n := by simp [cnt, hj]
      rw [e1]
      refine (h.fullL j a ha).move fun x hx => hset x fun ex => ?_
      subst ex
      exact blk_apart h.nodup ha he hj x (by simp [blk, hx]) hgm
  · refine (h.fullK j a ha).move fun x hx => hset x fun ex => ?_
    subst ex
    by_cases hj : j = i
    · subst hj
      rw [he] at ha
      cases ha
      have hnd : (e.l.ownBlock.toList ++ e.k.ownBlock.toList).Nodup := blk_self h.nodup he
      exact nodup_apart (x := x) hnd (by simp [hl, Value.ownBlock]) (by simp [hx])
    · exact blk_apart h.nodup ha he hj x (by simp [blk, hx]) hgm
  · unfold set5
    exact ((((h.bel.setCell hlie.1 _).setCell hlie.1 _).setCell hlie.1 _).setCell hlie.1 _).setCell hlie.1 _
theorem MS.storeK (h : MS lo b w es n vs ns i kL kK wr) {e : Ent} (he : es[i]? = some e) {g cap : Nat} (hl : e.k = .slice (some ⟨g, 0, none⟩) e.m cap) (hk : kK < e.m) :
    MS lo b w es n vs ns i kL (kK + 1) (wr.setCell ⟨g, kK, none⟩ (nc (n + i) 0)) := by
  have hgm : g ∈ blk e := by simp [blk, hl, Value.ownBlock]
  have hlie := h.lies g (mem_blks he hgm)
  have hset : ∀ k, k ≠ g → (wr.setCell ⟨g, kK, none⟩ (nc (n + i) 0)).heap[k]? = wr.heap[k]? := fun k hk => Below.heap_setCell _ _ _ _ (by simpa using hk)
  have hsz : (wr.setCell ⟨g, kK, none⟩ (nc (n + i) 0)).heap.size = wr.heap.size := by simp [World.setCell]
  refine ⟨h.own.other hlie.2 (by omega) hset, fun j a ha => ?_, fun j a ha => ?_, h.bel.setCell hlie.1 _, h.nodup, h.lies⟩
  · refine (h.fullL j a ha).move fun x hx => hset x fun ex => ?_
    subst ex
    by_cases hj : j = i
    · subst hj
      rw [he] at ha
      cases ha
      have hnd : (e.l.ownBlock.toList ++ e.k.ownBlock.toList).Nodup := blk_self h.nodup he
      exact nodup_apart (x := x) hnd (by simp [hx]) (by simp [hl, Value.ownBlock])
    · exact blk_apart h.nodup ha he hj x (by simp [blk, hx]) hgm
  · by_cases hj : j = i
    · subst hj
      rw [he] at ha
      cases ha
      have hf := h.fullK j e he
      simp only [cnt, Nat.lt_irrefl, if_false, if_true] at hf ⊢
      rw [hl] at hf ⊢
      exact hf.store1 hk
    · have e1 : cnt i (kK + 1) j a.m = cnt i kK j a.m := by simp [cnt, hj]
      rw [e1]
      refine (h.fullK j a ha).move fun x hx => hset x fun ex => ?_
      subst ex
      exact blk_apart h.nodup ha he hj x (by simp [blk, hx]) hgm
theorem MS.keep (h : MS lo b w es n vs ns i kL kK wr) {w1 : World} (hb : Below wr.heap.size wr w1) (hs : ∀ x ∈ blks es, x < wr.heap.size) (hlo : lo ≤ wr.heap.size) : MS lo b w es n vs ns i kL kK w1 :=
  ⟨h.own.keep hb, fun j a ha => (h.fullL j a ha).move fun x hx => hb.block x (hs x (mem_blks ha (by simp [blk, hx]))), fun j a ha => (h.fullK j a ha).move fun x hx => hb.block x (hs x (mem_blks ha (by simp [blk, hx]))), h.bel.trans (hb.mono hlo), h.nodup, h.lies⟩
theorem MS.next (h : MS lo b w es n vs ns i kL kK wr) {e : Ent} (he : es[i]? = some e) (hL : kL = e.n) (hK : kK = e.m) : MS lo b w es n vs ns (i + 1) 0 0 wr := by
  refine ⟨h.own, fun j a ha => ?_, fun j a ha => ?_, h.bel, h.nodup, h.lies⟩
  · have : cnt (i + 1) 0 j a.n = cnt i kL j a.n := by
      unfold cnt
      by_cases h1 : j < i
      · simp [h1, show j < i + 1 by omega]
      · by_cases h2 : j = i
        · subst h2
          rw [he] at ha
          cases ha
          simp [hL]
        · simp [h1, h2, show ¬ j < i + 1 by omega]
    rw [this]
    exact h.fullL j a ha
  · have : cnt (i + 1) 0 j a.m = cnt i kK j a.m := by
      unfold cnt
      by_cases h1 : j < i
      · simp [h1, show j < i + 1 by omega]
      · by_cases h2 : j = i
        · subst h2
          rw [he] at ha
          cases ha
          simp [hK]
        · simp [h1, h2, show ¬ j < i + 1 by omega]
    rw [this]
    exact h.fullK j a ha
end
end Go.Proofs.YtknakfpciccoaaaDoor
/- Rows that are recorded, and one that grows. -/
namespace Go.Proofs.YtknakfpciccoaaaDoor
open Go.RowKit

/-- A row that is only read: so many elements, all of them marks. -/
def Rd (w : World) (e : TypeId) (size : Nat) (v : Value) (len : Nat) (c : Nat → Value) : Prop :=
  (∃ A cap, v = .slice A len cap ∧ len ≤ maxLen) ∧ (0 < len → ∃ g cap cur, v = .slice (some ⟨g, 0, none⟩) len cap ∧ w.heap[g]? = some (.cells cur e (0, 0)) ∧ ∀ j, j < len * size → cur[j]? = some (c (j % size)))
theorem Full.rd {w : World} {e : TypeId} {size len : Nat} {v : Value} {c : Nat → Value} (h : Full w e size v len len c) : Rd w e size v len c := by
  obtain ⟨xs, h1, h2⟩ := h
  have hm : len ≤ maxLen := by
    rcases h1.2 with ⟨_, rfl⟩ | ⟨g, cap, cur, _, _, _, h3, h4, _⟩
    · exact Nat.zero_le _
    · exact Nat.le_trans h3 h4
  obtain ⟨A, d, e⟩ := own_shape h1
  refine ⟨⟨A, d, e, hm⟩, fun h0 => ?_⟩
  rcases h1.2 with ⟨_, rfl⟩ | ⟨g, cap, cur, rfl, _, hg, _, _, _, ht⟩
  · omega
  · refine ⟨g, cap, cur, rfl, hg, fun j hj => ?_⟩
    have := h2 j hj
    rw [← ht, List.getElem?_take, if_pos hj] at this
    simpa using this
theorem Rd.move {w w' : World} {e : TypeId} {size len : Nat} {v : Value} {c : Nat → Value} (h : Rd w e size v len c) (hb : ∀ g cur, v.ownBlock = some g → w.heap[g]? = some (.cells cur e (0, 0)) → w'.heap[g]? = w.heap[g]?) : Rd w' e size v len c := by
  refine ⟨h.1, fun h0 => ?_⟩
  obtain ⟨g, cap, cur, rfl, hg, hc⟩ := h.2 h0
  exact ⟨g, cap, cur, rfl, (hb g cur rfl hg).trans hg, hc⟩
theorem Rd.cell {w : World} {e : TypeId} {size len : Nat} {v : Value} {c : Nat → Value} (h : Rd w e size v len c) {q : Nat} (hq : q < len) : ∃ g cap, v = .slice (some ⟨g, 0, none⟩) len cap ∧ g < w.heap.size ∧ ∀ j, j < size → w.cell? ⟨g, q * size + j, none⟩ = some (c j) := by
  obtain ⟨g, cap, cur, rfl, hg, hc⟩ := h.2 (by omega)
  refine ⟨g, cap, rfl, (Array.getElem?_eq_some_iff.1 hg).1, fun j hj => ?_⟩
  have hl : q * size + j < len * size := by
    have : (q + 1) * size ≤ len * size := Nat.mul_le_mul_right _ hq
    rw [Nat.add_mul, Nat.one_mul] at this
    omega
  rw [cell_of_row w g _ cur e (0, 0) hg, hc _ hl, Nat.mul_comm q size, Nat.mul_add_mod_self_left, Nat.mod_eq_of_lt hj]
/-- What an append does to the world. -/
def Appd (w w' : World) (l : Value) (len g cap : Nat) : Prop := (l = .slice (some ⟨g, 0, none⟩) len cap ∧ w.grownBy w' (some g)) ∨ (w.heap.size ≤ g ∧ w.grownBy w' none)
theorem Appd.size {w w' : World} {l : Value} {len g cap : Nat} (h : Appd w w' l len g cap) : w.heap.size ≤ w'.heap.size := by
  rcases h with ⟨_, h⟩ | ⟨_, h⟩ <;> exact h.size
theorem Appd.far {w w' : World} {l : Value} {len g cap : Nat} (h : Appd w w' l len g cap) {k : Nat} (hk : k < w.heap.size) (hne : some k ≠ l.ownBlock) : w'.heap[k]? = w.heap[k]? := by
  rcases h with ⟨rfl, h⟩ | ⟨_, h⟩
  · exact h.block k hk hne
  · exact h.block k hk (by simp)
theorem Appd.below {w w' : World} {l : Value} {len g cap lo : Nat} (h : Appd w w' l len g cap) (hlo : ∀ x, l.ownBlock = some x → lo ≤ x) (hs : lo ≤ w.heap.size) : Below lo w w' := by
  rcases h with ⟨rfl, h⟩ | ⟨_, h⟩
  · exact ⟨h.os, h.tape, h.output, h.size, fun k hk => h.block k (by omega) (fun e => by have := hlo k e.symm; omega)⟩
  · exact ⟨h.os, h.tape, h.output, h.size, fun k hk => h.block k (by omega) (by simp)⟩
theorem Appd.newOr {w w' : World} {l : Value} {len g cap : Nat} (h : Appd w w' l len g cap) : NewOr w l (.slice (some ⟨g, 0, none⟩) (len + 1) cap) := by
  rcases h with ⟨rfl, _⟩ | ⟨h, _⟩
  · exact .inl rfl
  · refine .inr fun x e => ?_
    have : g = x := by simpa [Value.ownBlock] using e
    omega
/-- A row that is only read stays, if it ends ahead of where is written. -/
theorem Rd.app {w w' : World} {e : TypeId} {size n len g cap : Nat} {x l : Value} {c : Nat → Value} {xs news : List Value} (h : Rd w e size x n c) (hl : w.ownsRow 0 e size l len xs) (ha : Appd w w' l len g cap) (hO : w'.ownsRow 0 e size (.slice (some ⟨g, 0, none⟩) (len + 1) cap) (len + 1) (xs ++ news)) (hs : x.ownBlock = l.ownBlock → n ≤ len) : Rd w' e size x n c := by
  refine ⟨h.1, fun h0 => ?_⟩
  obtain ⟨gx, capx, cur, rfl, hg, hc⟩ := h.2 h0
  have hlt : gx < w.heap.size := (Array.getElem?_eq_some_iff.1 hg).1
  by_cases hne : some gx ≠ l.ownBlock
  · exact ⟨gx, capx, cur, rfl, (ha.far hlt hne).trans hg, hc⟩
  · have he : some gx = l.ownBlock := Classical.not_not.1 hne
    have hn := hs he
    rcases ha with ⟨rfl, hG⟩ | ⟨_, hG⟩
    · have hgg : gx = g := by simpa [Value.ownBlock] using he
      subst hgg
      rcases hO.2 with ⟨h', _⟩ | ⟨g', cap', cur', h', _, hg', _, _, _, ht'⟩
      · cases h'
      · cases h'
        rcases hl.2 with ⟨h'', _⟩ | ⟨g2, cap2, cur2, h'', _, hg2, _, _, _, ht2⟩
        · cases h''
        · cases h''
          rw [hg] at hg2
          simp only [Option.some.injEq, Obj.cells.injEq, and_true] at hg2
          subst hg2
          refine ⟨gx, capx, cur', rfl, hg', fun j hj => ?_⟩
          have hm : n * size ≤ len * size := Nat.mul_le_mul_right _ hn
          have hm2 : len * size ≤ (len + 1) * size := Nat.mul_le_mul_right _ (by omega)
          have hx : (xs ++ news)[j]? = xs[j]? := List.getElem?_append_left (by rw [hl.1]; omega)
          rw [← ht', List.getElem?_take, if_pos (by omega), ← ht2, List.getElem?_take, if_pos (by omega)] at hx
          have : cur'[j]? = cur[j]? := by simpa using hx
          rw [this]
          exact hc j hj
    · exact ⟨gx, capx, cur, rfl, (hG.block gx hlt (by simp)).trans hg, hc⟩
theorem own_ty {w : World} {lo : Nat} {e e' : TypeId} {size n : Nat} {v : Value} {xs : List Value} {cur : Array Value} {c : Nat} (h : w.ownsRow lo e size v n xs) (hc : w.heap[c]? = some (.cells cur e' (0, 0))) (he : e ≠ e') : some c ≠ v.ownBlock := own_block h hc he
theorem own_cells {w : World} {lo : Nat} {e : TypeId} {size n : Nat} {v : Value} {xs : List Value} (h : w.ownsRow lo e size v n xs) {g : Nat} (hg : v.ownBlock = some g) : ∃ cur, w.heap[g]? = some (.cells cur e (0, 0)) := by
  rcases h.2 with ⟨rfl, _⟩ | ⟨a, cap, cur, rfl, _, hga, _⟩
  · cases hg
  · cases hg
    exact ⟨cur, hga⟩
theorem OwnR.appd {b : Nat} {vs ns : Value} {n : Int} {E : List Ent} {w w' : World} {e : TypeId} {size len g cap lo : Nat} {l : Value} {xs : List Value} (h : OwnR b vs ns n E w) (hl : w.ownsRow lo e size l len xs) (ha : Appd w w' l len g cap) (hb : some b ≠ l.ownBlock) (h1 : e ≠ 23) (h2 : e ≠ 24) : OwnR b vs ns n E w' := by
  refine ⟨h.box.move ha.size (ha.far h.box.lt hb), own_move h.rowL fun k ek => ha.far (h.rowL.lt k ek).2 fun e2 => ?_, own_move h.rowK fun k ek => ha.far (h.rowK.lt k ek).2 fun e2 => ?_⟩
  · exact own_type hl h.rowL h1 e2.symm ek
  · exact own_type hl h.rowK h2 e2.symm ek
theorem Full.appd {w w' : World} {e e' : TypeId} {size size' n k len g cap lo : Nat} {x l : Value} {c : Nat → Value} {xs : List Value} (h : Full w e' size' x n k c) (hl : w.ownsRow lo e size l len xs) (ha : Appd w w' l len g cap) (hne : e ≠ e' ∨ ∀ y, x.ownBlock = some y → l.ownBlock ≠ some y) : Full w' e' size' x n k c := by
  obtain ⟨ys, h1, h2⟩ := h
  refine ⟨ys, own_move h1 fun y hy => ha.far (h1.lt y hy).2 fun e2 => ?_, h2⟩
  rcases hne with hne | hne
  · exact own_type hl h1 hne e2.symm hy
  · exact hne y hy e2.symm
theorem Rd.appdT {w w' : World} {e e' : TypeId} {size size' n len g cap lo : Nat} {x l : Value} {c : Nat → Value} {xs : List Value} (h : Rd w e' size' x n c) (hl : w.ownsRow lo e size l len xs) (ha : Appd w w' l len g cap) (hne : e ≠ e') : Rd w' e' size' x n c :=
  h.move fun _ _ _ hc => ha.far (Array.getElem?_eq_some_iff.1 hc).1 (own_block hl hc hne)
end Go.Proofs.YtknakfpciccoaaaDoor
/- What holds while the lists are recorded. -/
namespace Go.Proofs.YtknakfpciccoaaaDoor
open Go.RowKit

/-- Of the lists from number i on all are marked; those that are recorded read as they should. -/
structure RS (lo b b3 : Nat) (w : World) (es R : List Ent) (n : Nat) (vs ns : Value) (i : Nat) (wr : World) : Prop where
  own : OwnR b vs ns 0 es wr
  allV : ∀ g, vs.ownBlock = some g → g < b3
  allN : ∀ g, ns.ownBlock = some g → g < b3
  bb : b < b3
  bs : b3 < wr.heap.size
  pendL : ∀ (j : Nat) (e : Ent), i ≤ j → es[j]? = some e → Full wr eV 5 e.l e.n e.n (mc (n + j))
  pendK : ∀ (j : Nat) (e : Ent), i ≤ j → es[j]? = some e → Full wr eS 1 e.k e.m e.m (nc (n + j))
  recL : ∀ (q : Nat) (r : Ent), R[q]? = some r → Rd wr eV 5 r.l r.n (mc (n + q / 4))
  recK : ∀ (q : Nat) (r : Ent), R[q]? = some r → Rd wr eS 1 r.k r.m (nc (n + q / 4))
  recB : ∀ (q : Nat) (r : Ent), R[q]? = some r → ∀ x ∈ blk r, x < b ∨ b3 < x
  apart : ∀ (q : Nat) (r : Ent) (j : Nat) (e : Ent), R[q]? = some r → i ≤ j → es[j]? = some e → ∀ x ∈ blk r, x ∉ blk e
  bel : Below lo w wr
  lob : lo ≤ b
  nodup : (blks es).Nodup
  lies : ∀ x ∈ blks es, lo ≤ x ∧ x < b
/-- Of one list, which grows. -/
structure RBk (lo b b3 : Nat) (w : World) (es R : List Ent) (n : Nat) (vs ns : Value) (i : Nat) (l s : Value) (N M : Nat) (wr : World) : Prop where
  rs : RS lo b b3 w es R n vs ns (i + 1) wr
  curL : Full wr eV 5 l N N (mc (n + i))
  curK : Full wr eS 1 s M M (nc (n + i))
  saveL : ∀ (q : Nat) (r : Ent), R[q]? = some r → r.l.ownBlock = l.ownBlock → r.n ≤ N
  saveK : ∀ (q : Nat) (r : Ent), R[q]? = some r → r.k.ownBlock = s.ownBlock → r.m ≤ M
  curA : ∀ (j : Nat) (e : Ent), i + 1 ≤ j → es[j]? = some e → ∀ x, l.ownBlock = some x ∨ s.ownBlock = some x → x ∉ blk e
  curB : ∀ x, l.ownBlock = some x ∨ s.ownBlock = some x → lo ≤ x ∧ (x < b ∨ b3 < x)
section
variable {lo b b3 : Nat} {w : World} {es R : List Ent} {n : Nat} {vs ns : Value} {i : Nat} {l s : Value} {N M : Nat} {wr : World}
theorem RS.move (h : RS lo b b3 w es R n vs ns i wr) {w1 : World} (hown : OwnR b vs ns 0 es w1) (hbel : Below lo w w1) (hs : wr.heap.size ≤ w1.heap.size)
    (hL : ∀ (x : Nat) (cur : Array Value), wr.heap[x]? = some (.cells cur eV (0, 0)) → (x < b ∨ b3 < x) → w1.heap[x]? = wr.heap[x]?) (hK : ∀ (x : Nat) (cur : Array Value), wr.heap[x]? = some (.cells cur eS (0, 0)) → (x < b ∨ b3 < x) → w1.heap[x]? = wr.heap[x]?) : RS lo b b3 w es R n vs ns i w1 := by
  refine ⟨hown, h.allV, h.allN, h.bb, Nat.lt_of_lt_of_le h.bs hs, fun j e hj he => ?_, fun j e hj he => ?_, fun q r hr => ?_, fun q r hr => ?_, h.recB, h.apart, hbel, h.lob, h.nodup, h.lies⟩
  · obtain ⟨ys, h1, h2⟩ := h.pendL j e hj he
    refine ⟨ys, own_move h1 fun x hx => ?_, h2⟩
    obtain ⟨cur, hc⟩ := own_cells h1 hx
    exact hL x cur hc (.inl (h.lies x (mem_blks he (by simp [blk, hx]))).2)
  · obtain ⟨ys, h1, h2⟩ := h.pendK j e hj he
    refine ⟨ys, own_move h1 fun x hx => ?_, h2⟩
    obtain ⟨cur, hc⟩ := own_cells h1 hx
    exact hK x cur hc (.inl (h.lies x (mem_blks he (by simp [blk, hx]))).2)
  · exact (h.recL q r hr).move fun x cur hx hc => hL x cur hc (h.recB q r hr x (by simp [blk, hx]))
  · exact (h.recK q r hr).move fun x cur hx hc => hK x cur hc (h.recB q r hr x (by simp [blk, hx]))
theorem RBk.move (h : RBk lo b b3 w es R n vs ns i l s N M wr) {w1 : World} (hown : OwnR b vs ns 0 es w1) (hbel : Below lo w w1) (hs : wr.heap.size ≤ w1.heap.size)
    (hL : ∀ (x : Nat) (cur : Array Value), wr.heap[x]? = some (.cells cur eV (0, 0)) → (x < b ∨ b3 < x) → w1.heap[x]? = wr.heap[x]?) (hK : ∀ (x : Nat) (cur : Array Value), wr.heap[x]? = some (.cells cur eS (0, 0)) → (x < b ∨ b3 < x) → w1.heap[x]? = wr.heap[x]?) : RBk lo b b3 w es R n vs ns i l s N M w1 := by
  refine ⟨h.rs.move hown hbel hs hL hK, ?_, ?_, h.saveL, h.saveK, h.curA, h.curB⟩
  · obtain ⟨ys, h1, h2⟩ := h.curL
    refine ⟨ys, own_move h1 fun x hx => ?_, h2⟩
    obtain ⟨cur, hc⟩ := own_cells h1 hx
    exact hL x cur hc (h.curB x (.inl hx)).2
  · obtain ⟨ys, h1, h2⟩ := h.curK
    refine ⟨ys, own_move h1 fun x hx => ?_, h2⟩
    obtain ⟨cur, hc⟩ := own_cells h1 hx
    exact hK x cur hc (h.curB x (.inr hx)).2
theorem RBk.keep (h : RBk lo b b3 w es R n vs ns i l s N M wr) {w1 : World} (hb : Below wr.heap.size wr w1) : RBk lo b b3 w es R n vs ns i l s N M w1 := by
  have h1 := h.rs.bs
  have h2 := h.rs.bb
  have h3 := h.rs.lob
  exact h.move (h.rs.own.keep hb) (h.rs.bel.trans (hb.mono (by omega))) hb.size (fun x _ hc _ => hb.block x (Array.getElem?_eq_some_iff.1 hc).1) (fun x _ hc _ => hb.block x (Array.getElem?_eq_some_iff.1 hc).1)
/-- Where the record is written. -/
theorem RBk.keep3 (h : RBk lo b b3 w es R n vs ns i l s N M wr) {vs3 ns3 : Value} {A B : List Ent} {w1 : World} (hL3 : wr.ownsRow (b3 + 1) 23 1 vs3 A.length (A.map (·.l))) (hK3 : wr.ownsRow (b3 + 1) 24 1 ns3 B.length (B.map (·.k))) (hk : Keep3 b3 vs3 ns3 wr w1) : RBk lo b b3 w es R n vs ns i l s N M w1 := by
  have h1 := h.rs.bs
  have h2 := h.rs.bb
  have h3 := h.rs.lob
  have hlo : ∀ x, x < b3 → x < wr.heap.size → w1.heap[x]? = wr.heap[x]? := fun x hx hs => hk.block x hs (by omega) (fun e => by have := (hL3.lt x e.symm).1; omega) (fun e => by have := (hK3.lt x e.symm).1; omega)
  have hty : ∀ (x : Nat) (cur : Array Value) (e : TypeId), e ≠ 23 → e ≠ 24 → wr.heap[x]? = some (.cells cur e (0, 0)) → x ≠ b3 → w1.heap[x]? = wr.heap[x]? := fun x cur e e1 e2 hc hx => hk.block x (Array.getElem?_eq_some_iff.1 hc).1 hx (own_block hL3 hc (fun e => e1 e.symm)) (own_block hK3 hc (fun e => e2 e.symm))
  refine h.move ?_ ?_ hk.size (fun x cur hc hx => hty x cur eV (by decide) (by decide) hc (by omega)) (fun x cur hc hx => hty x cur eS (by decide) (by decide) hc (by omega))
  · exact ⟨h.rs.own.box.move hk.size (hlo b h2 h.rs.own.box.lt), own_move h.rs.own.rowL fun x e => hlo x (h.rs.allV x e) (h.rs.own.rowL.lt x e).2, own_move h.rs.own.rowK fun x e => hlo x (h.rs.allN x e) (h.rs.own.rowK.lt x e).2⟩
  · exact h.rs.bel.trans ⟨hk.os, hk.tape, hk.output, hk.size, fun x hx => hlo x (by omega) (by omega)⟩
theorem RBk.push (h : RBk lo b b3 w es R n vs ns i l s N M wr) (hq : R.length / 4 = i) : RBk lo b b3 w es (R ++ [⟨l, N, s, M⟩]) n vs ns i l s N M wr := by
  have hget : ∀ (q : Nat) (r : Ent), (R ++ [⟨l, N, s, M⟩])[q]? = some r → R[q]? = some r ∨ (q = R.length ∧ r = ⟨l, N, s, M⟩) := by
    intro q r hr
    by_cases hq : q < R.length
    · rw [List.getElem?_append_left hq] at hr
      exact .inl hr
    · rw [List.getElem?_append_right (by omega)] at hr
      have h0 : q - R.length = 0 := by
        cases hd : q - R.length with
        | zero => rfl
        | succ k => rw [hd] at hr; simp at hr
      rw [h0] at hr
      simp at hr
      exact .inr ⟨by omega, hr.symm⟩
  have hmem : ∀ x, x ∈ blk (⟨l, N, s, M⟩ : Ent) → l.ownBlock = some x ∨ s.ownBlock = some x := by
    intro x hx
    simpa [blk] using hx
  refine ⟨⟨h.rs.own, h.rs.allV, h.rs.allN, h.rs.bb, h.rs.bs, h.rs.pendL, h.rs.pendK, fun q r hr => ?_, fun q r hr => ?_, fun q r hr x hx => ?_, fun q r j e hr hj he x hx => ?_, h.rs.bel, h.rs.lob, h.rs.nodup, h.rs.lies⟩, h.curL, h.curK, fun q r hr he => ?_, fun q r hr he => ?_, h.curA, h.curB⟩
  · rcases hget q r hr with hr | ⟨rfl, rfl⟩
    · exact h.rs.recL q r hr
    · rw [hq]; exact h.curL.rd
  · rcases hget q r hr with hr | ⟨rfl, rfl⟩
    · exact h.rs.recK q r hr
    · rw [hq]; exact h.curK.rd
  · rcases hget q r hr with hr | ⟨rfl, rfl⟩
    · exact h.rs.recB q r hr x hx
    · exact (h.curB x (hmem x hx)).2
  · rcases hget q r hr with hr | ⟨rfl, rfl⟩
    · exact h.rs.apart q r j e hr hj he x hx
    · exact h.curA j e hj he x (hmem x hx)
  · rcases hget q r hr with hr | ⟨rfl, rfl⟩
    · exact h.saveL q r hr he
    · exact Nat.le_refl _
  · rcases hget q r hr with hr | ⟨rfl, rfl⟩
    · exact h.saveK q r hr he
    · exact Nat.le_refl _
theorem Rd.lt {w : World} {e : TypeId} {size len : Nat} {v : Value} {c : Nat → Value} (h : Rd w e size v len c) (h0 : 0 < len) : ∃ g, v.ownBlock = some g ∧ g < w.heap.size := by
  obtain ⟨g, cap, cur, rfl, hg, _⟩ := h.2 h0
  exact ⟨g, rfl, (Array.getElem?_eq_some_iff.1 hg).1⟩
theorem RBk.growL (h : RBk lo b b3 w es R n vs ns i l s N M wr) {w1 : World} {g cap : Nat} {xs : List Value} (hx : wr.ownsRow 0 eV 5 l N xs) (hxs : ∀ j, j < N * 5 → xs[j]? = some (mc (n + i) (j % 5))) (ha : Appd wr w1 l N g cap)
    (hO : w1.ownsRow 0 eV 5 (.slice (some ⟨g, 0, none⟩) (N + 1) cap) (N + 1) (xs ++ [mc (n + i) 0, mc (n + i) 1, mc (n + i) 2, mc (n + i) 3, mc (n + i) 4])) : RBk lo b b3 w es R n vs ns i (.slice (some ⟨g, 0, none⟩) (N + 1) cap) s (N + 1) M w1 := by
  have h1 := h.rs.bs
  have h2 := h.rs.bb
  have h3 := h.rs.lob
  have hob : some b ≠ l.ownBlock := fun e => by have := (h.curB b (.inl e.symm)).2; omega
  have hnew : ∀ x, (Value.slice (some ⟨g, 0, none⟩) (N + 1) cap).ownBlock = some x → l.ownBlock = some x ∨ wr.heap.size ≤ x := by
    intro x e
    rcases ha.newOr with hh | hh
    · exact .inl (hh ▸ e)
    · exact .inr (hh x e)
  refine ⟨⟨h.rs.own.appd hx ha hob (by decide) (by decide), h.rs.allV, h.rs.allN, h2, Nat.lt_of_lt_of_le h1 ha.size, fun j e hj he => ?_, fun j e hj he => ?_, fun q r hr => ?_, fun q r hr => ?_, h.rs.recB, h.rs.apart, h.rs.bel.trans (ha.below (fun x e => (h.curB x (.inl e)).1) (by omega)), h3, h.rs.nodup, h.rs.lies⟩, ?_, ?_, fun q r hr he => ?_, h.saveK, fun j e hj he x hxx => ?_, fun x hxx => ?_⟩
  · exact (h.rs.pendL j e hj he).appd hx ha (.inr fun y hy e2 => h.curA j e hj he y (.inl e2) (by simp [blk, hy]))
  · exact (h.rs.pendK j e hj he).appd hx ha (.inl (by decide))
  · exact (h.rs.recL q r hr).app hx ha hO (h.saveL q r hr)
  · exact (h.rs.recK q r hr).appdT hx ha (by decide)
  · refine Full.app hx hxs hO fun j hj => ?_
    match j, hj with
    | 0, _ => rfl
    | 1, _ => rfl
    | 2, _ => rfl
    | 3, _ => rfl
    | 4, _ => rfl
  · exact h.curK.appd hx ha (.inl (by decide))
  · by_cases h0 : 0 < r.n
    · obtain ⟨y, hy, hlt⟩ := (h.rs.recL q r hr).lt h0
      rw [hy] at he
      rcases hnew y he.symm with e | e
      · have := h.saveL q r hr (hy.trans e.symm)
        omega
      · omega
    · omega
  · rcases hxx with e2 | e2
    · rcases hnew x e2 with e3 | e3
      · exact h.curA j e hj he x (.inl e3)
      · intro hm
        have := (h.rs.lies x (mem_blks he hm)).2
        omega
    · exact h.curA j e hj he x (.inr e2)
  · rcases hxx with e2 | e2
    · rcases hnew x e2 with e3 | e3
      · exact h.curB x (.inl e3)
      · exact ⟨by omega, .inr (by omega)⟩
    · exact h.curB x (.inr e2)
theorem RBk.growK (h : RBk lo b b3 w es R n vs ns i l s N M wr) {w1 : World} {g cap : Nat} {xs : List Value} (hx : wr.ownsRow 0 eS 1 s M xs) (hxs : ∀ j, j < M * 1 → xs[j]? = some (nc (n + i) (j % 1))) (ha : Appd wr w1 s M g cap)
    (hO : w1.ownsRow 0 eS 1 (.slice (some ⟨g, 0, none⟩) (M + 1) cap) (M + 1) (xs ++ [nc (n + i) 0])) : RBk lo b b3 w es R n vs ns i l (.slice (some ⟨g, 0, none⟩) (M + 1) cap) N (M + 1) w1 := by
  have h1 := h.rs.bs
  have h2 := h.rs.bb
  have h3 := h.rs.lob
  have hob : some b ≠ s.ownBlock := fun e => by have := (h.curB b (.inr e.symm)).2; omega
  have hnew : ∀ x, (Value.slice (some ⟨g, 0, none⟩) (M + 1) cap).ownBlock = some x → s.ownBlock = some x ∨ wr.heap.size ≤ x := by
    intro x e
    rcases ha.newOr with hh | hh
    · exact .inl (hh ▸ e)
    · exact .inr (hh x e)
  refine ⟨⟨h.rs.own.appd hx ha hob (by decide) (by decide), h.rs.allV, h.rs.allN, h2, Nat.lt_of_lt_of_le h1 ha.size, fun j e hj he => ?_, fun j e hj he => ?_, fun q r hr => ?_, fun q r hr => ?_, h.rs.recB, h.rs.apart, h.rs.bel.trans (ha.below (fun x e => (h.curB x (.inr e)).1) (by omega)), h3, h.rs.nodup, h.rs.lies⟩, ?_, ?_, h.saveL, fun q r hr he => ?_, fun j e hj he x hxx => ?_, fun x hxx => ?_⟩
  · exact (h.rs.pendL j e hj he).appd hx ha (.inl (by decide))
  · exact (h.rs.pendK j e hj he).appd hx ha (.inr fun y hy e2 => h.curA j e hj he y (.inr e2) (by simp [blk, hy]))
  · exact (h.rs.recL q r hr).appdT hx ha (by decide)
  · exact (h.rs.recK q r hr).app hx ha hO (h.saveK q r hr)
  · exact h.curL.appd hx ha (.inl (by decide))
  · refine Full.app hx hxs hO fun j hj => ?_
    match j, hj with
    | 0, _ => rfl
  · by_cases h0 : 0 < r.m
    · obtain ⟨y, hy, hlt⟩ := (h.rs.recK q r hr).lt h0
      rw [hy] at he
      rcases hnew y he.symm with e | e
      · have := h.saveK q r hr (hy.trans e.symm)
        omega
      · omega
    · omega
  · rcases hxx with e2 | e2
    · exact h.curA j e hj he x (.inl e2)
    · rcases hnew x e2 with e3 | e3
      · exact h.curA j e hj he x (.inr e3)
      · intro hm
        have := (h.rs.lies x (mem_blks he hm)).2
        omega
  · rcases hxx with e2 | e2
    · exact h.curB x (.inl e2)
    · rcases hnew x e2 with e3 | e3
      · exact h.curB x (.inr e3)
      · exact ⟨by omega, .inr (by omega)⟩
theorem RS.begin (h : RS lo b b3 w es R n vs ns i wr) {e : Ent} (he : es[i]? = some e) : RBk lo b b3 w es R n vs ns i e.l e.k e.n e.m wr := by
  have hx : ∀ x, e.l.ownBlock = some x ∨ e.k.ownBlock = some x → x ∈ blk e := by
    intro x hx
    simpa [blk] using hx
  refine ⟨⟨h.own, h.allV, h.allN, h.bb, h.bs, fun j a hj => h.pendL j a (by omega), fun j a hj => h.pendK j a (by omega), h.recL, h.recK, h.recB, fun q r j a hr hj => h.apart q r j a hr (by omega), h.bel, h.lob, h.nodup, h.lies⟩, h.pendL i e (Nat.le_refl _) he, h.pendK i e (Nat.le_refl _) he, fun q r hr hh => ?_, fun q r hr hh => ?_, fun j a hj ha x hxx hm => ?_, fun x hxx => ?_⟩
  · by_cases h0 : 0 < r.n
    · obtain ⟨y, hy, _⟩ := (h.recL q r hr).lt h0
      exact absurd (hx y (.inl (hh ▸ hy))) (h.apart q r i e hr (Nat.le_refl _) he y (by simp [blk, hy]))
    · omega
  · by_cases h0 : 0 < r.m
    · obtain ⟨y, hy, _⟩ := (h.recK q r hr).lt h0
      exact absurd (hx y (.inr (hh ▸ hy))) (h.apart q r i e hr (Nat.le_refl _) he y (by simp [blk, hy]))
    · omega
  · exact blk_apart h.nodup he ha (by omega) x (hx x hxx) hm
  · have := h.lies x (mem_blks he (hx x hxx))
    exact ⟨this.1, .inl this.2⟩
end
end Go.Proofs.YtknakfpciccoaaaDoor
