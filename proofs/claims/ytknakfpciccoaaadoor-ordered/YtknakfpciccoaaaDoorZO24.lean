import Derived.Test.YtknakfpciccoaaaDoorZO1
import Derived.Deep.AppendSrc
import Derived.Deep.AppendLies
import Derived.Laws.BytesArg
import Derived.Laws.IdiomStrings
import Derived.Test.YtknakfpciccoaaaDoorZO23
import Derived.Deep.RegionHeldLaw
/- append onto a slice of one's own, of whatever is appended: a text's bytes too. -/
namespace Go.Proofs.YtknakfpciccoaaaDoor
open Go.RowKit

theorem run_append_src {P : Program} (w : World) (base : Nat) (t tx ty e : TypeId) (i : TypeInfo) (z : Value) (size bytes : Nat) (ht : P.underlying t = some (.slice e)) (hi : P.info? e = some i) (hz : i.zero = some z)
    (hsize : i.size = size) (hby : i.bytes = bytes) (hzs : z.cells.size = size)
    (v : Value) (n : Nat) (xs : List Value) (hown : w.ownsRow base e size v n xs) (x : Value) (m : Nat) (news : List Value) (hs : Src P size tx x m news w)
    (h63 : n + m ≤ maxLen) (hbytes : (n + m) * bytes ≤ 140737488355328) (hbase : base ≤ w.heap.size) :
    ∃ v' w', (Builtin.append_ #[t, tx] ty #[v, x]).run P w = .ok v' w' ∧ w'.ownsRow base e size v' (n + m) (xs ++ news) ∧ w.grownBy w' v.ownBlock ∧ (v'.ownBlock = v.ownBlock ∨ v'.ownBlock = some w.heap.size) := by
  subst hsize
  subst hby
  have hsmall : n + m ≤ 9223372036854775807 := by simp only [maxLen] at h63; omega
  have hl := hs.newsLen
  have hlen : (xs ++ news).length = (n + m) * i.size := by rw [List.length_append, hown.1, hl, Nat.add_mul]
  have grown : ∀ (old : Nat), ∀ (row : Option Nat),
      (w.drew.alloc (.cells ((xs ++ news).toArray ++ Builtin.zeroCells z.cells (grownCap w (n + m) old e - (n + m))) e)).ownsRow base e i.size
        (.slice (some ⟨w.heap.size, 0, none⟩) (n + m) (grownCap w (n + m) old e)) (n + m) (xs ++ news) ∧
      w.grownBy (w.drew.alloc (.cells ((xs ++ news).toArray ++ Builtin.zeroCells z.cells (grownCap w (n + m) old e - (n + m))) e)) row := by
    intro old row
    have hge := grownCap_ge w (n + m) old e
    have hcm : grownCap w (n + m) old e ≤ maxLen := grownCap_le_maxLen w (n + m) old e h63
    refine ⟨⟨hlen, .inr ⟨w.heap.size, _, _, rfl, hbase, heap_alloc_new w.drew _, hge, hcm, ?_, ?_⟩⟩, ⟨rfl, rfl, rfl, by simp, fun k hk _ => heap_alloc_old w.drew _ hk⟩⟩
    · simp only [Array.size_append, List.size_toArray, size_zeroCells, hzs, hlen, ← Nat.add_mul]
      congr 1
      omega
    · simp only [Array.toList_append]
      rw [← hlen]
      exact List.take_left
  rcases hown.2 with ⟨rfl, rfl⟩ | ⟨g, cap, cur, rfl, hbg, hg, hnc, hcm, hcs, htake⟩
  · have hx : xs = [] := List.eq_nil_of_length_eq_zero (by simpa using hown.1)
    subst hx
    by_cases hm : m = 0
    · subst hm
      have hn : news = [] := List.eq_nil_of_length_eq_zero (by simpa using hl)
      subst hn
      refine ⟨.slice none 0 0, w, ?_, World.ownsRow_nil w base e i.size, ⟨rfl, rfl, rfl, Nat.le_refl _, fun _ _ _ => rfl⟩, Or.inl rfl⟩
      rcases hs.kind with ⟨e', hk⟩ | hk <;> simp [Builtin.append_, run_underlying ht, run_underlying hk, sizeOf, typeInfo, hi, hs.len, hs.cells]
    · have hr := run_append_grow_src (P := P) w t tx ty e i z ht hi hz none 0 0 [] (run_firstCells_none w.drew i.size 0 0 0) x m news hs (by omega) (by omega) (growslice_fits (by omega) hbytes)
      have hgr := grown 0 (Value.ownBlock (.slice none 0 0))
      exact ⟨_, _, hr, hgr.1, hgr.2, Or.inr rfl⟩
  · by_cases hroom : n + m ≤ cap
    · have hfit : n * i.size + news.length ≤ cur.size := by rw [hl, hcs, ← Nat.add_mul]; exact Nat.mul_le_mul_right _ hroom
      have hst := run_storeCells_at P g (n * i.size) e news 0 cur w hg (by simpa using hfit) hs.one
      simp only [Nat.add_zero] at hst
      have hr : (Builtin.append_ #[t, tx] ty #[.slice (some ⟨g, 0, none⟩) n cap, x]).run P w = .ok (.slice (some ⟨g, 0, none⟩) (n + m) cap) (w.setRow g (cur.toList.take (n * i.size) ++ news ++ cur.toList.drop (n * i.size + news.length)).toArray) := by
        rcases hs.kind with ⟨e', hk⟩ | hk <;> simp [Builtin.append_, run_underlying ht, run_underlying hk, sizeOf, typeInfo, hi, hs.len, hroom, hs.cells, Addr.add_lit, hst]
      refine ⟨_, _, hr, ⟨hlen, .inr ⟨g, cap, _, rfl, hbg, setRow_heap w g cur _ e _ hg, hroom, hcm, ?_, ?_⟩⟩, ⟨rfl, rfl, rfl, by simp, fun k _ hk => setRow_other w g k _ (fun e => hk (by simp [Value.ownBlock, e]))⟩, Or.inl rfl⟩
      · simp only [List.size_toArray, List.length_append, List.length_take, List.length_drop, Array.length_toList]
        omega
      · rw [htake, ← hlen]
        exact List.take_left
    · have holds : ∀ j u, xs[j]? = some u → w.cell? ((⟨g, 0, none⟩ : Addr).add j) = some u := hown.cells (g := g) rfl
      have hr := run_append_grow_src (P := P) w t tx ty e i z ht hi hz (some ⟨g, 0, none⟩) n cap xs (run_firstCells_some w.drew i.size n ⟨g, 0, none⟩ n cap xs hown.1 (by simpa using holds)) x m news hs (by omega) (by omega) (growslice_fits (by omega) hbytes)
      have hgr := grown cap (Value.ownBlock (.slice (some ⟨g, 0, none⟩) n cap))
      exact ⟨_, _, hr, hgr.1, hgr.2, Or.inr rfl⟩
theorem wp_append_src {P : Program} (w : World) {o : Oper} {a : Act} {K : Act → World → Prop} {Q : Exit → Act → World → Prop} (s xo : Operand) (t tx : TypeId)
    (ho : o.op = .call { callee := .builtin .append, args := #[s, xo], argTypes := #[t, tx] })
    (base : Nat) (e : TypeId) (i : TypeInfo) (z : Value) (size bytes : Nat) (ht : P.underlying t = some (.slice e)) (hi : P.info? e = some i) (hz : i.zero = some z)
    (hsize : i.size = size) (hby : i.bytes = bytes) (hzs : z.cells.size = size)
    (v : Value) (n : Nat) (xs : List Value) (hsv : a.eval s = v) (hown : w.ownsRow base e size v n xs) (x : Value) (m : Nat) (news : List Value) (hx : a.eval xo = x) (hs : Src P size tx x m news w)
    (h63 : n + m ≤ maxLen) (hbytes : (n + m) * bytes ≤ 140737488355328) (hbase : base ≤ w.heap.size)
    (h : ∀ v' w', w'.ownsRow base e size v' (n + m) (xs ++ news) → w.grownBy w' v.ownBlock → (v'.ownBlock = v.ownBlock ∨ v'.ownBlock = some w.heap.size) → K (a.put o.dst v') w') : o.wp P a w K Q := by
  obtain ⟨v', w', hr, h2, h3, h4⟩ := run_append_src (P := P) w base t tx o.type e i z size bytes ht hi hz hsize hby hzs v n xs hown x m news hs h63 hbytes hbase
  unfold Oper.wp execOp
  simp only [ho, resolve, invoke, builtin, Sem.run_bind, Sem.run_pure, Result.andThen_ok, List.map_toArray, List.map_cons, List.map_nil, hsv, hx, hr]
  exact h v' w' h2 h3 h4
theorem wpList_append_src {P : Program} (w : World) {ops : Array Oper} {rest : List Oper} {o : Oper} {a : Act} {Q : Exit → Act → World → Prop} (hgd : o.guard = none) (s xo : Operand) (t tx : TypeId)
    (ho : o.op = .call { callee := .builtin .append, args := #[s, xo], argTypes := #[t, tx] })
    (base : Nat) (e : TypeId) (i : TypeInfo) (z : Value) (size bytes : Nat) (ht : P.underlying t = some (.slice e)) (hi : P.info? e = some i) (hz : i.zero = some z)
    (hsize : i.size = size) (hby : i.bytes = bytes) (hzs : z.cells.size = size)
    (v : Value) (n : Nat) (xs : List Value) (hsv : a.eval s = v) (hown : w.ownsRow base e size v n xs) (x : Value) (m : Nat) (news : List Value) (hx : a.eval xo = x) (hs : Src P size tx x m news w)
    (h63 : n + m ≤ maxLen) (hbytes : (n + m) * bytes ≤ 140737488355328) (hbase : base ≤ w.heap.size)
    (h : ∀ v' w', w'.ownsRow base e size v' (n + m) (xs ++ news) → w.grownBy w' v.ownBlock → (v'.ownBlock = v.ownBlock ∨ v'.ownBlock = some w.heap.size) → wpList P ops Q rest (a.put o.dst v') w') : wpList P ops Q (o :: rest) a w :=
  wpList_plain hgd fun _ hK => wp_append_src w s xo t tx ho base e i z size bytes ht hi hz hsize hby hzs v n xs hsv hown x m news hx hs h63 hbytes hbase fun v' w' h2 h3 h4 => hK _ _ (h v' w' h2 h3 h4)
theorem step_append_src {P : Program} (w : World) {ops : Array Oper} {o : Oper} {a : Act} {K : Act → World → Prop} {Q : Exit → Act → World → Prop} {E : Prop} (hgd : o.guard = none) (s xo : Operand) (t tx : TypeId)
    (ho : o.op = .call { callee := .builtin .append, args := #[s, xo], argTypes := #[t, tx] })
    (base : Nat) (e : TypeId) (i : TypeInfo) (z : Value) (size bytes : Nat) (ht : P.underlying t = some (.slice e)) (hi : P.info? e = some i) (hz : i.zero = some z)
    (hsize : i.size = size) (hby : i.bytes = bytes) (hzs : z.cells.size = size)
    (v : Value) (n : Nat) (xs : List Value) (hsv : a.eval s = v) (hown : w.ownsRow base e size v n xs) (x : Value) (m : Nat) (news : List Value) (hx : a.eval xo = x) (hs : Src P size tx x m news w)
    (h63 : n + m ≤ maxLen) (hbytes : (n + m) * bytes ≤ 140737488355328) (hbase : base ≤ w.heap.size)
    (h : ∀ v' w', w'.ownsRow base e size v' (n + m) (xs ++ news) → w.grownBy w' v.ownBlock → (v'.ownBlock = v.ownBlock ∨ v'.ownBlock = some w.heap.size) → K (a.put o.dst v') w') :
    if Region.wanted o (yielded ops a.tmps) = true then Oper.wp P o a w K Q else E := by
  have hw : Region.wanted o (yielded ops a.tmps) = true := by simp [Region.wanted, hgd]
  rw [if_pos hw]
  exact wp_append_src w s xo t tx ho base e i z size bytes ht hi hz hsize hby hzs v n xs hsv hown x m news hx hs h63 hbytes hbase h
/-- A text's bytes, as cells. -/
def bytesV (l : List UInt8) : List Value := l.map fun b => Value.int .u8 b.toNat
theorem bytesV_append (a b : List UInt8) : bytesV (a ++ b) = bytesV a ++ bytesV b := List.map_append ..
theorem bytesV_length (a : List UInt8) : (bytesV a).length = a.length := List.length_map ..
theorem src_bytes {P : Program} (w : World) {tx : TypeId} (hk : P.underlying tx = some .string) (s : ByteArray) : Src P 1 tx (.string s) s.size (bytesV s.data.toList) w := Src.ofString w hk s
/-- A list of bytes of one's own, as a text. -/
theorem conv_own {P : Program} {w : World} {base : Nat} {src dst e : TypeId} {v : Value} {l : List UInt8} (hs : P.underlying src = some (.slice e)) (he : P.underlying e = some (.int .u8)) (hd : P.underlying dst = some .string)
    (h : w.ownsRow base e 1 v l.length (bytesV l)) : (convert src dst v).run P w = .ok (.string ⟨l.toArray⟩) w := by
  rcases h.2 with ⟨rfl, h0⟩ | ⟨g, cap, cur, rfl, hbg, hg, hnc, hcm, hcs, htake⟩
  · have : l = [] := List.eq_nil_of_length_eq_zero h0
    subst this
    exact run_convert_bytes_nil w src e hs he 0 0 dst hd
  · refine run_convert_bytes_back (P := P) w src dst e ⟨g, 0, none⟩ cap l hs he hd fun j hj => ?_
    have := h.cells (g := g) rfl j (.int .u8 ((l[j]'hj).toNat : Nat)) (by unfold bytesV; rw [List.getElem?_map, List.getElem?_eq_getElem hj]; rfl)
    exact this
end Go.Proofs.YtknakfpciccoaaaDoor
/- The walks of the reference's parser: texts. -/
namespace Go.Proofs.YtknakfpciccoaaaDoor
open Go.RowKit

theorem infoB : (Tryd.prog.info? 5).map (fun i => (i.zero, i.size, i.bytes)) = some (some (.int .u8 0), 1, 1) := by kernel_rfl
def RTxtPost (c : Nat) (s : ByteArray) (i : Nat) (w : World) (e : Ending) (w' : World) : Prop :=
  But c w w' ∧ ((∃ x j, txtS s i = some (x, j) ∧ e = .returned (.string x) ∧ RL c s j false w') ∨ (txtS s i = none ∧ e = .returned (.string ⟨#[]⟩) ∧ RB c s w'))
/-- A list of bytes of one's own, while a text is read. -/
structure TxI (c : Nat) (w : World) (v : Value) (acc : List UInt8) (wr : World) : Prop where
  own : wr.ownsRow w.heap.size 5 1 v acc.length (bytesV acc)
  but : But c w wr
  lc : c < w.heap.size
theorem row_move {w w' : World} {lo : Nat} {e : TypeId} {size n : Nat} {v : Value} {xs : List Value} (h : w.ownsRow lo e size v n xs) (hb : ∀ b, lo ≤ b → b < w.heap.size → w'.heap[b]? = w.heap[b]?) : w'.ownsRow lo e size v n xs := by
  refine ⟨h.1, ?_⟩
  rcases h.2 with hn | ⟨g, cap, cur, rfl, hb0, hg, rest⟩
  · exact .inl hn
  · exact .inr ⟨g, cap, cur, rfl, hb0, (hb g hb0 (Array.getElem?_eq_some_iff.1 hg).1).trans hg, rest⟩
theorem TxI.inner {c : Nat} {w : World} {v : Value} {acc : List UInt8} {wr w1 : World} (h : TxI c w v acc wr) (hB : But c wr w1) : TxI c w v acc w1 :=
  ⟨row_move h.own fun b h1 h2 => hB.block b h2 (by have := h.lc; omega), h.but.trans hB, h.lc⟩
theorem TxI.keep {c : Nat} {w : World} {v : Value} {acc : List UInt8} {wr w1 : World} (h : TxI c w v acc wr) (hB : Below wr.heap.size wr w1) : TxI c w v acc w1 := h.inner (But.of hB)
theorem TxI.grow {c : Nat} {w : World} {v v' : Value} {acc l : List UInt8} {wr w1 : World} (h : TxI c w v acc wr) (hO : w1.ownsRow w.heap.size 5 1 v' (acc.length + l.length) (bytesV acc ++ bytesV l)) (hG : wr.grownBy w1 v.ownBlock) : TxI c w v' (acc ++ l) w1 := by
  refine ⟨?_, ⟨hG.os.trans h.but.os, hG.tape.trans h.but.tape, hG.output.trans h.but.output, Nat.le_trans h.but.size hG.size, fun k hk hc => ?_⟩, h.lc⟩
  · rw [List.length_append, bytesV_append]
    exact hO
  · rw [hG.block k (Nat.lt_of_lt_of_le hk h.but.size) ?_, h.but.block k hk hc]
    intro e
    rcases h.own.2 with ⟨rfl, _⟩ | ⟨g, cap, cur, rfl, hb0, _⟩
    · cases e
    · have : k = g := by simpa [Value.ownBlock] using e
      omega
theorem TxI.rd {c : Nat} {w : World} {v : Value} {acc : List UInt8} {wr w1 : World} (h : TxI c w v acc wr) (hG : wr.grownBy w1 v.ownBlock) {s : ByteArray} {i : Nat} {b : Bool} (hL : RL c s i b wr) : RL c s i b w1 := by
  refine hL.move hG.size (hG.block c hL.lt ?_)
  intro e
  have := h.lc
  rcases h.own.2 with ⟨rfl, _⟩ | ⟨g, cap, cur, rfl, hb0, _⟩
  · cases e
  · have : c = g := by simpa [Value.ownBlock] using e
    omega
set_option maxHeartbeats 8000000 in
set_option maxRecDepth 100000 in
theorem rtext_any (c : Nat) (s : ByteArray) (i : Nat) (w : World) (h : RL c s i false w) (hs : s.size ≤ 4000) (hi : i ≤ s.size) (hsk : sk s i = i) :
    Calls Tryd.prog 42 #[.pointer (some ⟨c, 0, none⟩)] w (RTxtPost c s i w) := by
  obtain ⟨iB, hiB, zB0, zB1, zB2⟩ := info_parts infoB
  have HL := hid h
  have hlc := h.lt
  clear h
  by_cases h34 : cB s i = 34
  · have hlt : i < s.size := cB_in (by omega)
    have hp : pfx s (sk s i) ⟨#[34]⟩ = true := by rw [hsk, pfx_one]; exact decide_eq_true h34
    have HA : Hid (Calls Tryd.prog 47 #[.pointer (some ⟨c, 0, none⟩), .string ⟨#[34]⟩] w fun e w' => e = .returned (.tuple #[]) ∧ But c w w' ∧ RL c s (i + 1) false w') := by
      have := must_yes c s i ⟨#[34]⟩ w HL.out hs hi (by show (1 : Nat) ≤ 100; omega) hp
      rw [hsk] at this
      exact this
    have HX := hid (txtS_of h34)
    clear h34 hp hsk
    go_enter Tryd.func42, Tryd.ntmps42
    go_wp2_with fail
    refine HA.out.mono ?_
    rintro e w1 ⟨rfl, hB1, hL1⟩
    have HL1 := hid hL1
    have HI1 : Hid (TxI c w (.slice none 0 0) [] w1) := ⟨World.ownsRow_nil w1 _ _ _, hB1, hlc⟩
    clear hB1 hL1 HA
    go_wp2_with fail
    go_loopg [3] (s.size + 1 - (i + 1)) (fun g v wr => (∃ (k n : Nat) (acc : List UInt8), g = s.size + 1 - k ∧ k ≤ s.size ∧ s.size + 1 ≤ n + k ∧ acc.length ≤ 4 * k ∧ Hid (RL c s k false wr) ∧ Hid (TxI c w v acc wr) ∧ Hid (txtN s (s.size + 1) (i + 1) = (txtN s n k).map fun p => (acc ++ p.1, p.2))) ∨ (g = 0 ∧ Hid (RB c s wr) ∧ Hid (But c w wr) ∧ Hid (txtS s i = none)))
    case atStart => exact Or.inl ⟨i + 1, s.size + 1, [], rfl, by omega, by omega, by simp, HL1, HI1, by show _ = _; cases txtN s (s.size + 1) (i + 1) <;> rfl⟩
    case round =>
      clear HL1 HI1
      rcases hrel with ⟨k, n, acc, rfl, hk, hn, hacc, HLk, HI, HN⟩ | ⟨rfl, HRB, HB, HZ⟩
      · obtain ⟨n, rfl⟩ : ∃ m, n = m + 1 := ⟨n - 1, by omega⟩
        have q0 := HLk.out.q0
        have q1 := HLk.out.q1
        have q2 := HLk.out.q2
        have q3 := HLk.out.f1
        have q4 := HLk.out.f2
        by_cases hlt2 : k < s.size
        · obtain ⟨z, hz, hzc⟩ := cB_get hlt2
          have HZc := hid hzc
          have x1 : decide ((s.size : Int) ≤ (k : Int)) = false := decide_eq_false (by omega)
          have x2 : (k : Int) < (s.size : Int) := by omega
          have lz : z.toNat < 256 := z.toNat_lt
          clear hzc
          by_cases h32 : z.toNat < 32
          · have x3 : decide ((z.toNat : Int) < 32) = true := decide_eq_true (by omega)
            have HZ : Hid (txtS s i = none) := by
              show _ = _
              rw [HX.out, HN.out, txtN_none (by rw [HZc.out]; omega) (letS_bad hlt2 (by rw [HZc.out]; omega) (by rw [HZc.out]; omega))]
              rfl
            go_wp2_with fail
            go_quiet (fail)
            have HBq := hid (below_drewN (Below.refl wr.heap.size wr) nq)
            generalize wr.drewN nq = w2 at HBq ⊢
            have HL2 := hid (HLk.out.keep HBq.out)
            have HI2 := hid (HI.out.keep HBq.out)
            clear q0 q1 q2 q3 q4
            have q2 := HL2.out.q2
            have q4 := HL2.out.f2
            go_wp2_with fail
            go_ret
            exact ⟨HI2.out.but.trans (But.set w2 c 2 _), Or.inr ⟨HZ.out, rfl, k, by omega, HL2.out.mark true⟩⟩
          · have x3 : decide ((z.toNat : Int) < 32) = false := decide_eq_false (by omega)
            by_cases hq34 : z.toNat = 34
            · have HZ : Hid (txtS s i = some (baL acc, k + 1)) := by
                show _ = _
                rw [HX.out, HN.out, txtN_quote (by rw [HZc.out]; exact hq34)]
                simp
              have y1 : ((z.toNat : Int) == 34) = true := by rw [beq_iff_eq]; omega
              clear h32 hq34
              go_wp2_with fail
              go_quiet (fail)
              have HBq := hid (below_drewN (Below.refl wr.heap.size wr) nq)
              generalize wr.drewN nq = w2 at HBq ⊢
              have HL2 := hid (HLk.out.keep HBq.out)
              have HI2 := hid (HI.out.keep HBq.out)
              clear q0 q1 q2 q3 q4
              have q0 := HL2.out.q0
              have q1 := HL2.out.q1
              have q3 := HL2.out.f1
              go_wp2_with fail
              go_quiet (fail)
              have HBq2 := hid (below_drewN (Below.refl w2.heap.size w2) nq)
              generalize w2.drewN nq = w3 at HBq2 ⊢
              have HL3 := hid (HL2.out.keep HBq2.out)
              have HI3 := hid (HI2.out.keep HBq2.out)
              clear q0 q1 q3
              have q1 := HL3.out.q1
              have q3 := HL3.out.f1
              have HI4 := hid (HI3.out.inner (But.set w3 c 1 (.int .i64 ((k : Int) + 1))))
              have hcv := conv_own (P := Tryd.prog) (src := 60) (dst := 9) Tryd.underlying60 Tryd.underlying5 Tryd.underlying9 HI4.out.own
              go_wp2_with fail
              go_ret
              exact ⟨HI4.out.but, Or.inl ⟨_, k + 1, HZ.out, rfl, HL3.out.set (k + 1)⟩⟩
            · have y1 : ((z.toNat : Int) == 34) = false := by rw [beq_eq_false_iff_ne]; omega
              by_cases hq92 : z.toNat = 92
              · have y2 : ((z.toNat : Int) == 92) = true := by rw [beq_iff_eq]; omega
                have HY : Hid (letS s k = escR s (k + 1)) := by show _ = _; unfold letS; rw [if_pos (by rw [HZc.out]; exact hq92)]
                have H34 : Hid (cB s k ≠ 34) := by show _ ≠ _; rw [HZc.out]; exact hq34
                clear h32 hq34 hq92
                go_wp2_with fail
                go_quiet (fail)
                have HBq := hid (below_drewN (Below.refl wr.heap.size wr) nq)
                generalize wr.drewN nq = w2 at HBq ⊢
                have HL2 := hid (HLk.out.keep HBq.out)
                have HI2 := hid (HI.out.keep HBq.out)
                clear q0 q1 q2 q3 q4
                have q0 := HL2.out.q0
                have q1 := HL2.out.q1
                have q3 := HL2.out.f1
                go_wp2_with fail
                go_quiet (fail)
                have HBq2 := hid (below_drewN (Below.refl w2.heap.size w2) nq)
                generalize w2.drewN nq = w3 at HBq2 ⊢
                have HL3 := hid (HL2.out.keep HBq2.out)
                have HI3 := hid (HI2.out.keep HBq2.out)
                clear q0 q1 q3
                have q1 := HL3.out.q1
                have q3 := HL3.out.f1
                have HL4 := hid (HL3.out.set (k + 1))
                have HI4 := hid (HI3.out.inner (But.set w3 c 1 (.int .i64 ((k + 1 : Nat) : Int))))
                have HEs : Hid (Calls Tryd.prog 71 #[.pointer (some ⟨c, 0, none⟩)] (w3.setCell ⟨c, 1, none⟩ (.int .i64 ((k : Int) + 1))) (REscPost c s (escR s (k + 1)) (w3.setCell ⟨c, 1, none⟩ (.int .i64 ((k + 1 : Nat) : Int))))) := rescape_any c s (k + 1) _ HL4.out hs (by omega)
                clear HLk HI HL2 HI2 HL3 HI3
                go_wp2_with fail
                refine HEs.out.mono ?_
                clear HL4 HEs q1 q3
                generalize w3.setCell ⟨c, 1, none⟩ (.int .i64 ((k + 1 : Nat) : Int)) = w4 at HI4 ⊢
                rintro e w5 ⟨B5, ⟨r, j, hx, rfl, L5⟩ | ⟨hx, ⟨y, hy, rfl⟩, L5⟩⟩
                · have HL5 := hid L5
                  have HI5 := hid (HI4.out.inner B5)
                  have hadv := letS_adv (HY.out.trans hx)
                  have HN5 := hid (HN.out.trans (txtN_let (n := n) acc H34.out (HY.out.trans hx)))
                  have hl4 := Lib.runeCells_le (r : Int)
                  rw [Lib.runeCells_length] at hl4
                  have hsz := baL_size (Lib.encodeRune (r : Int))
                  have Hsz := hid hsz
                  have HS5 := hid (src_bytes (P := Tryd.prog) w5 Tryd.underlying9 (baL (Lib.encodeRune (r : Int))))
                  rw [baL_list] at HS5
                  clear B5 L5 hx HI4 HN hsz
                  go_wp2_with (refine wpList_append_src _ rfl _ _ _ _ rfl w.heap.size 5 iB _ 1 1 Tryd.underlying60 hiB zB0 zB1 zB2 rfl _ acc.length (bytesV acc) rfl HI5.out.own _ _ _ rfl HS5.out (by rw [Hsz.out]; unfold maxLen; omega) (by rw [Hsz.out]; omega) HI5.out.but.size ?_; intro v' w6 hO6 hG6 hat6)
                  rw [Hsz.out] at hO6
                  have HI6 := hid (HI5.out.grow hO6 hG6)
                  have HL6 := hid (HI5.out.rd hG6 HL5.out)
                  clear hO6 hG6 hat6 HI5 HL5 HS5
                  go_wp2_with fail
                  go_roundg (s.size + 1 - j)
                  case rel => exact Or.inl ⟨j, n, acc ++ Lib.encodeRune (r : Int), rfl, by omega, by omega, by rw [List.length_append]; omega, HL6, HI6, HN5⟩
                  case measure => omega
                · have HI5 := hid (HI4.out.inner B5)
                  have HR5 := hid L5
                  have HZ : Hid (txtS s i = none) := by
                    show _ = _
                    rw [HX.out, HN.out, txtN_none H34.out (HY.out.trans hx)]
                    rfl
                  have HS5 := hid (src_bytes (P := Tryd.prog) w5 Tryd.underlying9 y)
                  clear B5 L5 hx HI4 HN
                  go_wp2_with (refine wpList_append_src _ rfl _ _ _ _ rfl w.heap.size 5 iB _ 1 1 Tryd.underlying60 hiB zB0 zB1 zB2 rfl _ acc.length (bytesV acc) rfl HI5.out.own _ _ _ rfl HS5.out (by unfold maxLen; omega) (by omega) HI5.out.but.size ?_; intro v' w6 hO6 hG6 hat6)
                  have HI6 := hid (HI5.out.grow (l := y.data.toList) hO6 hG6)
                  have HR6 : Hid (RB c s w6) := by
                    obtain ⟨j, hj, hL⟩ := HR5.out
                    exact ⟨j, hj, HI5.out.rd hG6 hL⟩
                  have HB6 := hid HI6.out.but
                  clear hO6 hG6 hat6 HI5 HR5 HS5
                  go_wp2_with fail
                  go_roundg 0
                  case rel => exact Or.inr ⟨rfl, HR6, HB6, HZ⟩
                  case measure => omega
              · have y2 : ((z.toNat : Int) == 92) = false := by rw [beq_eq_false_iff_ne]; omega
                have H34 : Hid (cB s k ≠ 34) := by show _ ≠ _; rw [HZc.out]; exact hq34
                have H92 : Hid (cB s k ≠ 92) := by show _ ≠ _; rw [HZc.out]; exact hq92
                have H32 : Hid (32 ≤ cB s k) := by show _ ≤ _; rw [HZc.out]; omega
                clear h32 hq34 hq92
                go_wp2_with fail
                go_quiet (fail)
                have HBq := hid (below_drewN (Below.refl wr.heap.size wr) nq)
                generalize wr.drewN nq = w2 at HBq ⊢
                have HL2 := hid (HLk.out.keep HBq.out)
                have HI2 := hid (HI.out.keep HBq.out)
                clear q0 q1 q2 q3 q4
                have q0 := HL2.out.q0
                have q1 := HL2.out.q1
                go_wp2_with fail
                go_quiet (fail)
                have HBq2 := hid (below_drewN (Below.refl w2.heap.size w2) nq)
                generalize w2.drewN nq = w3 at HBq2 ⊢
                have HL3 := hid (HL2.out.keep HBq2.out)
                have HI3 := hid (HI2.out.keep HBq2.out)
                clear q0 q1 HLk HI HL2 HI2
                have q0 := HL3.out.q0
                have q1 := HL3.out.q1
                have x4 : (k : Int) ≤ (s.size : Int) := by omega
                have Hsz : Hid ((s.extract k s.size).size = s.size - k) := Lib.ext_size s k
                go_wp2_with fail
                refine wp_region_held_drew (S := fun wx => wx.cell? ⟨c, 0, none⟩ = some (.string s) ∧ wx.cell? ⟨c, 1, none⟩ = some (.int .i64 (k : Int))) (by kernel_rfl) ⟨by simpa using q0, by simpa using q1⟩ (fun hHeld => ?_)
                refine wpAnyH_take (i := 0) (v := .pointer (some ⟨c, 0, none⟩)) rfl (by kernel_rfl) (by kernel_rfl) (by kernel_rfl) (fun _ _ _ h => h) (Or.inl ⟨by rfl, (by intro wx hSw; obtain ⟨s0, s1⟩ := hSw; go_simp)⟩) hHeld ?_
                refine wpAnyH_take (i := 1) (v := .pointer (some ⟨c, 0, none⟩)) rfl (by kernel_rfl) (by kernel_rfl) (by kernel_rfl) (fun _ _ _ h => h) (Or.inl ⟨by rfl, (by intro wx hSw; obtain ⟨s0, s1⟩ := hSw; go_simp)⟩) hHeld ?_
                refine wpAnyH_take (i := 2) (v := .pointer (some ⟨c, 0, none⟩)) rfl (by kernel_rfl) (by kernel_rfl) (by kernel_rfl) (fun _ _ _ h => h) (Or.inl ⟨by rfl, (by intro wx hSw; obtain ⟨s0, s1⟩ := hSw; go_simp)⟩) hHeld ?_
                refine wpAnyH_take (i := 3) (v := .string s) rfl (by kernel_rfl) (by kernel_rfl) (by kernel_rfl) (fun _ _ _ h => h) (Or.inl ⟨by rfl, (by intro wx hSw; obtain ⟨s0, s1⟩ := hSw; go_simp)⟩) hHeld ?_
                refine wpAnyH_take (i := 4) (v := .pointer (some ⟨c, 0, none⟩)) rfl (by kernel_rfl) (by kernel_rfl) (by kernel_rfl) (fun _ _ _ h => h) (Or.inl ⟨by rfl, (by intro wx hSw; obtain ⟨s0, s1⟩ := hSw; go_simp)⟩) hHeld ?_
                refine wpAnyH_take (i := 5) (v := .pointer (some ⟨c, 0, none⟩)) rfl (by kernel_rfl) (by kernel_rfl) (by kernel_rfl) (fun _ _ _ h => h) (Or.inl ⟨by rfl, (by intro wx hSw; obtain ⟨s0, s1⟩ := hSw; go_simp)⟩) hHeld ?_
                refine wpAnyH_take (i := 6) (v := .pointer (some ⟨c, 1, none⟩)) rfl (by kernel_rfl) (by kernel_rfl) (by kernel_rfl) (fun _ _ _ h => h) (Or.inl ⟨by rfl, (by intro wx hSw; obtain ⟨s0, s1⟩ := hSw; go_simp)⟩) hHeld ?_
                refine wpAnyH_take (i := 7) (v := .int .i64 (k : Int)) rfl (by kernel_rfl) (by kernel_rfl) (by kernel_rfl) (fun _ _ _ h => h) (Or.inl ⟨by rfl, (by intro wx hSw; obtain ⟨s0, s1⟩ := hSw; go_simp)⟩) hHeld ?_
                refine wpAnyH_take (i := 8) (v := .string (s.extract k s.size)) rfl (by kernel_rfl) (by kernel_rfl) (by kernel_rfl) (fun _ _ _ h => h) (Or.inl ⟨by rfl, (by intro wx hSw; obtain ⟨s0, s1⟩ := hSw; go_simp)⟩) hHeld ?_
                refine wpAnyH_ready (rs := [9]) (by kernel_rfl) (by simp) (AllReadyH.cons rfl (fun KK hKK => ?_) AllReadyH.nil)
                go_simp
                go_wp2_with (go_at_call 72; refine (utf_any (s.extract k s.size) _ (by rw [Hsz.out]; omega) (by rw [Hsz.out]; omega)).mono ?_; rintro e w4 ⟨⟨x, rfl⟩, rfl⟩)
                refine hKK.out _ _ ⟨by simpa using q0, by simpa using q1⟩ (fun hHeld => ?_)
                clear hKK KK
                refine wpAnyH_take (i := 10) (v := .tuple #[.int .i64 (utfN (s.extract k s.size) : Int), .int .i64 x]) rfl (by kernel_rfl) (by kernel_rfl) (by kernel_rfl) (fun _ _ _ h => h) (Or.inl ⟨by rfl, (by intro wx hSw; obtain ⟨s0, s1⟩ := hSw; go_simp)⟩) hHeld ?_
                refine wpAnyH_take (i := 11) (v := .int .i64 (utfN (s.extract k s.size) : Int)) rfl (by kernel_rfl) (by kernel_rfl) (by kernel_rfl) (fun _ _ _ h => h) (Or.inl ⟨by rfl, (by intro wx hSw; obtain ⟨s0, s1⟩ := hSw; go_simp)⟩) hHeld ?_
                refine wpAnyH_take (i := 12) (v := .int .i64 x) rfl (by kernel_rfl) (by kernel_rfl) (by kernel_rfl) (fun _ _ _ h => h) (Or.inl ⟨by rfl, (by intro wx hSw; obtain ⟨s0, s1⟩ := hSw; go_simp)⟩) hHeld ?_
                refine wpAnyH_take (i := 13) (v := .int .i64 (utfN (s.extract k s.size) : Int)) rfl (by kernel_rfl) (by kernel_rfl) (by kernel_rfl) (fun _ _ _ h => h) (Or.inl ⟨by rfl, (by intro wx hSw; obtain ⟨s0, s1⟩ := hSw; go_simp)⟩) hHeld ?_
                refine wpAnyH_take (i := 14) (v := .int .i64 x) rfl (by kernel_rfl) (by kernel_rfl) (by kernel_rfl) (fun _ _ _ h => h) (Or.inl ⟨by rfl, (by intro wx hSw; obtain ⟨s0, s1⟩ := hSw; go_simp)⟩) hHeld ?_
                refine wpAnyH_done (by kernel_rfl) ?_ _
                · have HBd := hid (below_drew w3)
                  generalize w3.drew = w4 at HBd ⊢
                  have HL4 := hid (HL3.out.keep HBd.out)
                  have HI4 := hid (HI3.out.keep HBd.out)
                  clear q0 q1
                  have q2 := HL4.out.q2
                  have q4 := HL4.out.f2
                  have hle : utfN (s.extract k s.size) ≤ s.size - k := by
                    have := utfN_le (s.extract k s.size) (by rw [Hsz.out]; omega)
                    rw [Hsz.out] at this
                    exact this
                  have HG0 := hid (fun h0 : utfN (suf s k) = 0 => letS_bad hlt2 H92.out (Or.inr h0))
                  have HG1 := hid (letS_good hlt2 H92.out H32.out)
                  rw [show suf s k = s.extract k s.size from rfl] at HG0 HG1
                  generalize utfN (s.extract k s.size) = m at hle HG0 HG1 ⊢
                  obtain ⟨b, hb⟩ : ∃ b, ((m : Int) == 0) = b := ⟨_, rfl⟩
                  have HL5 := hid (HL4.out.mark b)
                  have HI5 := hid (HI4.out.inner (But.set w4 c 2 (.bool b)))
                  go_wp2_with fail
                  generalize w4.setCell ⟨c, 2, none⟩ (.bool b) = w5 at HL5 HI5 ⊢
                  have q0 := HL5.out.q0
                  have q1 := HL5.out.q1
                  have e2 : IntKind.i64.wrap ((k : Int) + (m : Int)) = (k : Int) + (m : Int) := by rw [IntKind.wrap_i64]; omega
                  have e3 : ((k : Int) + (m : Int)).toNat = k + m := by omega
                  have x5 : (k : Int) ≤ (k : Int) + (m : Int) := by omega
                  have x6 : (k : Int) + (m : Int) ≤ (s.size : Int) := by omega
                  have HI5d := hid (HI5.out.keep (below_drew w5))
                  have HL5d := hid (HL5.out.keep (below_drew w5))
                  have HS5 := hid (src_bytes (P := Tryd.prog) w5.drew Tryd.underlying9 (s.extract k (k + m)))
                  have Hex : Hid ((s.extract k (k + m)).size = m) := by show _ = _; rw [ByteArray.size_extract]; omega
                  have Hb := hid hb
                  clear q2 q4 HL4 HI4 hb
                  refine wp_region_held_drew (S := fun wx => wx.cell? ⟨c, 0, none⟩ = some (.string s) ∧ wx.cell? ⟨c, 1, none⟩ = some (.int .i64 (k : Int))) (by kernel_rfl) ⟨HL5d.out.q0, HL5d.out.q1⟩ (fun hHeld => ?_)
                  refine wpAnyH_take (i := 0) (v := u3) rfl (by kernel_rfl) (by kernel_rfl) (by kernel_rfl) (fun _ _ _ h => h) (Or.inl ⟨by rfl, (by intro wx hSw; obtain ⟨s0, s1⟩ := hSw; go_simp)⟩) hHeld ?_
                  refine wpAnyH_take (i := 1) (v := .pointer (some ⟨c, 0, none⟩)) rfl (by kernel_rfl) (by kernel_rfl) (by kernel_rfl) (fun _ _ _ h => h) (Or.inl ⟨by rfl, (by intro wx hSw; obtain ⟨s0, s1⟩ := hSw; go_simp)⟩) hHeld ?_
                  refine wpAnyH_take (i := 2) (v := .pointer (some ⟨c, 0, none⟩)) rfl (by kernel_rfl) (by kernel_rfl) (by kernel_rfl) (fun _ _ _ h => h) (Or.inl ⟨by rfl, (by intro wx hSw; obtain ⟨s0, s1⟩ := hSw; go_simp)⟩) hHeld ?_
                  refine wpAnyH_take (i := 3) (v := .pointer (some ⟨c, 0, none⟩)) rfl (by kernel_rfl) (by kernel_rfl) (by kernel_rfl) (fun _ _ _ h => h) (Or.inl ⟨by rfl, (by intro wx hSw; obtain ⟨s0, s1⟩ := hSw; go_simp)⟩) hHeld ?_
                  refine wpAnyH_take (i := 4) (v := .string s) rfl (by kernel_rfl) (by kernel_rfl) (by kernel_rfl) (fun _ _ _ h => h) (Or.inl ⟨by rfl, (by intro wx hSw; obtain ⟨s0, s1⟩ := hSw; go_simp)⟩) hHeld ?_
                  refine wpAnyH_take (i := 5) (v := .pointer (some ⟨c, 0, none⟩)) rfl (by kernel_rfl) (by kernel_rfl) (by kernel_rfl) (fun _ _ _ h => h) (Or.inl ⟨by rfl, (by intro wx hSw; obtain ⟨s0, s1⟩ := hSw; go_simp)⟩) hHeld ?_
                  refine wpAnyH_take (i := 6) (v := .pointer (some ⟨c, 0, none⟩)) rfl (by kernel_rfl) (by kernel_rfl) (by kernel_rfl) (fun _ _ _ h => h) (Or.inl ⟨by rfl, (by intro wx hSw; obtain ⟨s0, s1⟩ := hSw; go_simp)⟩) hHeld ?_
                  refine wpAnyH_take (i := 7) (v := .pointer (some ⟨c, 1, none⟩)) rfl (by kernel_rfl) (by kernel_rfl) (by kernel_rfl) (fun _ _ _ h => h) (Or.inl ⟨by rfl, (by intro wx hSw; obtain ⟨s0, s1⟩ := hSw; go_simp)⟩) hHeld ?_
                  refine wpAnyH_take (i := 8) (v := .int .i64 (k : Int)) rfl (by kernel_rfl) (by kernel_rfl) (by kernel_rfl) (fun _ _ _ h => h) (Or.inl ⟨by rfl, (by intro wx hSw; obtain ⟨s0, s1⟩ := hSw; go_simp)⟩) hHeld ?_
                  refine wpAnyH_take (i := 9) (v := .pointer (some ⟨c, 0, none⟩)) rfl (by kernel_rfl) (by kernel_rfl) (by kernel_rfl) (fun _ _ _ h => h) (Or.inl ⟨by rfl, (by intro wx hSw; obtain ⟨s0, s1⟩ := hSw; go_simp)⟩) hHeld ?_
                  refine wpAnyH_take (i := 10) (v := .pointer (some ⟨c, 0, none⟩)) rfl (by kernel_rfl) (by kernel_rfl) (by kernel_rfl) (fun _ _ _ h => h) (Or.inl ⟨by rfl, (by intro wx hSw; obtain ⟨s0, s1⟩ := hSw; go_simp)⟩) hHeld ?_
                  refine wpAnyH_take (i := 11) (v := .pointer (some ⟨c, 1, none⟩)) rfl (by kernel_rfl) (by kernel_rfl) (by kernel_rfl) (fun _ _ _ h => h) (Or.inl ⟨by rfl, (by intro wx hSw; obtain ⟨s0, s1⟩ := hSw; go_simp)⟩) hHeld ?_
                  refine wpAnyH_take (i := 12) (v := .int .i64 (k : Int)) rfl (by kernel_rfl) (by kernel_rfl) (by kernel_rfl) (fun _ _ _ h => h) (Or.inl ⟨by rfl, (by intro wx hSw; obtain ⟨s0, s1⟩ := hSw; go_simp)⟩) hHeld ?_
                  refine wpAnyH_take (i := 13) (v := .int .i64 (m : Int)) rfl (by kernel_rfl) (by kernel_rfl) (by kernel_rfl) (fun _ _ _ h => h) (Or.inl ⟨by rfl, (by intro wx hSw; obtain ⟨s0, s1⟩ := hSw; go_simp)⟩) hHeld ?_
                  refine wpAnyH_take (i := 14) (v := .int .i64 ((k : Int) + (m : Int))) rfl (by kernel_rfl) (by kernel_rfl) (by kernel_rfl) (fun _ _ _ h => h) (Or.inl ⟨by rfl, (by intro wx hSw; obtain ⟨s0, s1⟩ := hSw; go_simp)⟩) hHeld ?_
                  refine wpAnyH_take (i := 15) (v := .string (s.extract k (k + m))) rfl (by kernel_rfl) (by kernel_rfl) (by kernel_rfl) (fun _ _ _ h => h) (Or.inl ⟨by rfl, (by intro wx hSw; obtain ⟨s0, s1⟩ := hSw; go_simp)⟩) hHeld ?_
                  refine wpAnyH_ready (rs := [16]) (by kernel_rfl) (by simp) (AllReadyH.cons rfl (fun KK hKK => ?_) AllReadyH.nil)
                  rw [if_pos (by kernel_rfl)]
                  refine wp_append_src _ (.tmp 98) (.tmp 113) 60 9 (by rfl) w.heap.size 5 iB _ 1 1 Tryd.underlying60 hiB zB0 zB1 zB2 rfl u3 acc.length (bytesV acc) (by kernel_rfl) HI5d.out.own (.string (s.extract k (k + m))) (s.extract k (k + m)).size _ (by kernel_rfl) HS5.out (by rw [Hex.out]; unfold maxLen; omega) (by rw [Hex.out]; omega) HI5d.out.but.size ?_
                  intro v' w6 hO6 hG6 hat6
                  have HI6 := hid (HI5d.out.grow (l := (s.extract k (k + m)).data.toList) hO6 hG6)
                  have HL6 := hid (HI5d.out.rd hG6 HL5d.out)
                  refine hKK.out _ _ ⟨HL6.out.q0, HL6.out.q1⟩ (fun hHeld => ?_)
                  clear hKK KK hO6 hG6 hat6
                  refine wpAnyH_take (i := 17) (v := v') rfl (by kernel_rfl) (by kernel_rfl) (by kernel_rfl) (fun _ _ _ h => h) (Or.inl ⟨by rfl, (by intro wx hSw; obtain ⟨s0, s1⟩ := hSw; go_simp)⟩) hHeld ?_
                  refine wpAnyH_done (by kernel_rfl) ?_ _
                  clear q0 q1
                  have q1 := HL6.out.q1
                  have q3 := HL6.out.f1
                  have HL7 := hid (HL6.out.set (k + m))
                  have HI7 := hid (HI6.out.inner (But.set w6 c 1 (.int .i64 ((k + m : Nat) : Int))))
                  have hlen : (acc ++ (s.extract k (k + m)).data.toList).length = acc.length + m := by
                    rw [List.length_append]
                    show _ + (s.extract k (k + m)).size = _
                    rw [Hex.out]
                  cases b with
                  | false =>
                    have hm0 : m ≠ 0 := by have := Hb.out; rw [beq_eq_false_iff_ne] at this; omega
                    obtain ⟨r, hr1, hr2, hr3⟩ := HG1.out hm0
                    have HN7 : Hid (txtN s (s.size + 1) (i + 1) = (txtN s n (k + m)).map fun p => ((acc ++ (s.extract k (k + m)).data.toList) ++ p.1, p.2)) := by
                      show _ = _
                      rw [HN.out, txtN_let (n := n) acc H34.out hr1, hr2]
                    clear hr1 hr2
                    go_wp2_with fail
                    go_roundg (s.size + 1 - (k + m))
                    case rel => exact Or.inl ⟨k + m, n, _, rfl, by omega, by omega, by rw [hlen]; omega, HL7, HI7, HN7⟩
                    case measure => omega
                  | true =>
                    have hm0 : m = 0 := by have := Hb.out; rw [beq_iff_eq] at this; omega
                    have HZ : Hid (txtS s i = none) := by
                      show _ = _
                      rw [HX.out, HN.out, txtN_none H34.out (HG0.out hm0)]
                      rfl
                    have HB7 := hid HI7.out.but
                    clear hm0
                    go_wp2_with fail
                    go_roundg 0
                    case rel => exact Or.inr ⟨rfl, ⟨k + m, by omega, HL7.out⟩, HB7, HZ⟩
                    case measure => omega
        · have x1 : decide ((s.size : Int) ≤ (k : Int)) = true := decide_eq_true (by omega)
          have HZ : Hid (txtS s i = none) := by
            show _ = _
            rw [HX.out, HN.out, txtN_none (by rw [cB_end (by omega)]; omega) (letS_end (by omega))]
            rfl
          go_wp2_with fail
          go_quiet (fail)
          have HBq := hid (below_drewN (Below.refl wr.heap.size wr) nq)
          generalize wr.drewN nq = w2 at HBq ⊢
          have HL2 := hid (HLk.out.keep HBq.out)
          have HI2 := hid (HI.out.keep HBq.out)
          clear q0 q1 q2 q3 q4
          have q2 := HL2.out.q2
          have q4 := HL2.out.f2
          go_wp2_with fail
          go_ret
          exact ⟨HI2.out.but.trans (But.set w2 c 2 _), Or.inr ⟨HZ.out, rfl, k, by omega, HL2.out.mark true⟩⟩
      · obtain ⟨j, hj, hL⟩ := HRB.out
        have q2 := hL.q2
        have HRB' := hid HRB.out
        clear hL HRB
        go_wp2_with fail
        go_ret
        exact ⟨HB.out, Or.inr ⟨HZ.out, rfl, HRB'.out⟩⟩
  · have hp : pfx s (sk s i) ⟨#[34]⟩ = false := by rw [hsk, pfx_one]; exact decide_eq_false h34
    have HA := hid (must_no c s i ⟨#[34]⟩ w HL.out hs hi (by show (1 : Nat) ≤ 100; omega) hp)
    have HX := hid (txtS_not h34)
    clear h34 hp
    go_enter Tryd.func42, Tryd.ntmps42
    go_wp2_with fail
    refine HA.out.mono ?_
    rintro e w1 ⟨rfl, hB1, hR1⟩
    have HB1 := hid hB1
    have HR1 := hid hR1
    clear hB1 hR1 HA
    go_wp2_with fail
    go_loopg [3] 0 (fun g _v wr => g = 0 ∧ Hid (RB c s wr) ∧ Hid (But c w wr))
    case atStart => exact ⟨rfl, HR1, HB1⟩
    case round =>
      clear HR1 HB1
      obtain ⟨rfl, HRB, HB⟩ := hrel
      obtain ⟨j, hj, hL⟩ := HRB.out
      have q2 := hL.q2
      have HRB' := hid HRB.out
      clear hL HRB
      go_wp2_with fail
      go_ret
      exact ⟨HB.out, Or.inr ⟨HX.out, rfl, HRB'.out⟩⟩
end Go.Proofs.YtknakfpciccoaaaDoor
