import Derived.Test.YtknakfpciccoaaaGreatDoorProg
import Derived.Test.YtknakfpciccoaaaGreatDoorZO4
import Derived.Test.YtknakfpciccoaaaGreatDoorZO6
import Derived.Test.YtknakfpciccoaaaGreatDoorZO19
import Derived.Deep.RegionHeldLaw
import Derived.Deep.RegionLaw
import Derived.Test.YtknakfpciccoaaaGreatDoorZO1
import Derived.Test.YtknakfpciccoaaaGreatDoorZO3
/- Values as bytes, pure: what is written; a row of bytes of one's own that grows. -/
namespace Go.Proofs.YtknakfpciccoaaaGreatDoor
open Go.RowKit

/-- The byte at a place, counted from the lowest. -/
def byAt (n : Int) (k : Nat) : UInt8 := UInt8.ofNat (n / 256 ^ k % 256).toNat
theorem byAt_toNat (n : Int) (k : Nat) : ((byAt n k).toNat : Int) = n / 256 ^ k % 256 := by
  unfold byAt
  rw [UInt8.toNat_ofNat']
  have h0 := Int.emod_nonneg (n / 256 ^ k) (show (256 : Int) ≠ 0 by decide)
  have h1 := Int.emod_lt_of_pos (n / 256 ^ k) (show (0 : Int) < 256 by decide)
  omega
theorem by_eq {a b : UInt8} (h : (a.toNat : Int) = b.toNat) : a = b := UInt8.toNat_inj.1 (by omega)
/-- So many of the lowest bytes, the highest first. -/
def beL (n : Int) : Nat → List UInt8
  | 0 => []
  | k + 1 => byAt n k :: beL n k
theorem beL_len (n : Int) : ∀ k, (beL n k).length = k
  | 0 => rfl
  | k + 1 => by simp [beL, beL_len n k]
theorem pow_dvd (k : Nat) (h : k < 8) : ∃ c : Int, (18446744073709551616 : Int) = 256 ^ k * (256 * c) := by
  have : ∀ k : Fin 8, (18446744073709551616 : Int) = 256 ^ k.1 * (256 * (256 ^ (7 - k.1))) := by decide
  exact ⟨_, this ⟨k, h⟩⟩
theorem byAt_wrap (n : Int) (k : Nat) (h : k < 8) : byAt (n % 18446744073709551616) k = byAt n k := by
  apply by_eq
  rw [byAt_toNat, byAt_toNat]
  obtain ⟨c, hc⟩ := pow_dvd k h
  have hp : (256 : Int) ^ k ≠ 0 := by
    have : (0 : Int) < 256 ^ k := Int.pow_pos (by decide)
    omega
  have e := Int.emod_add_mul_ediv n 18446744073709551616
  generalize n % 18446744073709551616 = r at e ⊢
  generalize n / 18446744073709551616 = q at e
  rw [← e, hc, Int.mul_assoc, Int.add_mul_ediv_left _ _ hp, Int.mul_assoc, Int.add_mul_emod_self_left]
theorem beL_wrap (n : Int) : ∀ k, k ≤ 8 → beL (n % 18446744073709551616) k = beL n k
  | 0, _ => rfl
  | k + 1, h => by rw [beL, beL, byAt_wrap n k (by omega), beL_wrap n k (by omega)]
def kindB (t : T) : UInt8 := byAt (kindOf t) 0
def leafE (t : T) : List UInt8 :=
  kindB t :: (if kindOf t = 2 then [byAt (nOf t) 0] else if kindOf t = 3 then beL (nOf t) 8 else if kindOf t = 4 then beL (sOf t).size 4 ++ (sOf t).data.toList else [])
def nameE (t : T) (k : Nat) : List UInt8 := if kindOf t = 6 then beL (nam t k).size 2 ++ (nam t k).data.toList else []
def catB (g : T → List UInt8) (t : T) : Nat → List UInt8
  | 0 => []
  | k + 1 => catB g t k ++ (nameE t k ++ g (elt t k))
def boxE (t : T) (body : List UInt8) : List UInt8 := kindB t :: (beL body.length 4 ++ body)
def encT : Nat → T → List UInt8
  | 0, t => leafE t
  | m + 1, t => if kindOf t = 5 ∨ kindOf t = 6 then boxE t (catB (encT m) t (nL t)) else leafE t
theorem encT_leaf {m : Nat} {t : T} (h5 : kindOf t ≠ 5) (h6 : kindOf t ≠ 6) : encT m t = leafE t := by
  cases m with
  | zero => rfl
  | succ m => unfold encT; rw [if_neg (by omega)]
theorem encT_box {m : Nat} {t : T} (h : kindOf t = 5 ∨ kindOf t = 6) : encT (m + 1) t = boxE t (catB (encT m) t (nL t)) := by rw [encT, if_pos h]
theorem catB_mono (g : T → List UInt8) (t : T) {k n : Nat} (h : k ≤ n) : (catB g t k).length ≤ (catB g t n).length := by
  induction n with
  | zero => have : k = 0 := by omega
            subst this; exact Nat.le_refl _
  | succ n ih =>
    by_cases e : k = n + 1
    · subst e; exact Nat.le_refl _
    · have := ih (by omega)
      simp only [catB, List.length_append]
      omega
theorem leafE_len {t : T} (h : leafGood t) : (leafE t).length = leafBytes t := by
  obtain ⟨_, _, h⟩ := h
  unfold leafE leafBytes
  rcases h with ⟨h, _⟩ | ⟨h, _⟩ | ⟨h, _⟩ | ⟨h, _⟩ <;> simp [h, beL_len]
  omega
theorem catB_len5 {g : T → List UInt8} {h : T → Nat} {t : T} (h5 : kindOf t ≠ 6) : ∀ k, (∀ i, i < k → (g (elt t i)).length = h (elt t i)) → (catB g t k).length = sumL h t k
  | 0, _ => rfl
  | k + 1, hh => by
    have ih := catB_len5 h5 k (fun i hi => hh i (by omega))
    have hk := hh k (by omega)
    simp only [catB, sumL, nameE, if_neg h5, List.length_append, List.length_nil]
    omega
theorem catB_len6 {g : T → List UInt8} {h : T → Nat} {t : T} (h6 : kindOf t = 6) : ∀ k, (∀ i, i < k → (g (elt t i)).length = h (elt t i)) → (catB g t k).length = sumK t k + sumL h t k
  | 0, _ => rfl
  | k + 1, hh => by
    have ih := catB_len6 h6 k (fun i hi => hh i (by omega))
    have hk := hh k (by omega)
    have e : (nam t k).data.toList.length = (nam t k).size := rfl
    simp only [catB, sumL, sumK, nameE, if_pos h6, List.length_append, beL_len]
    omega
theorem encT_len : ∀ (m : Nat) (t : T), Good m t → (encT m t).length = bytesT m t
  | 0, t, hg => leafE_len hg
  | m + 1, t, hg => by
    rcases hg with hg | ⟨_, _, he, hk⟩
    · have k5 : kindOf t ≠ 5 ∧ kindOf t ≠ 6 := by
        obtain ⟨_, _, h⟩ := hg
        rcases h with ⟨h, _⟩ | ⟨h, _⟩ | ⟨h, _⟩ | ⟨h, _⟩ <;> omega
      unfold encT bytesT
      rw [if_neg (by omega), if_neg k5.1, if_neg k5.2]
      exact leafE_len hg
    · have hi : ∀ i, i < nL t → (encT m (elt t i)).length = bytesT m (elt t i) := fun i hi => encT_len m _ (he i hi)
      unfold encT bytesT
      rcases hk with ⟨k5, _⟩ | ⟨k6, hnk, _⟩
      · rw [if_pos (.inl k5), if_pos k5]
        have := catB_len5 (g := encT m) (h := bytesT m) (by omega) (nL t) hi
        simp only [boxE, List.length_cons, List.length_append, beL_len]
        omega
      · rw [if_pos (.inr k6), if_neg (by omega), if_pos k6, hnk]
        have := catB_len6 (g := encT m) (h := bytesT m) k6 (nL t) hi
        simp only [boxE, List.length_cons, List.length_append, beL_len]
        omega

theorem infoBE : (Tryz.prog.info? 5).map (fun i => (i.zero, i.size, i.bytes)) = some (some (.int .u8 0), 1, 1) := by kernel_rfl
/-- A row of bytes of one's own, and what else was kept since an earlier one. -/
structure QG (w0 : World) (r : Value) (w : World) (r' : Value) (acc : List UInt8) (w' : World) : Prop where
  row : w'.ownsRow w0.heap.size 5 1 r' acc.length (bytesV acc)
  grown : w.grownBy w' r.ownBlock
  own : r'.ownBlock = r.ownBlock ∨ ∃ b, r'.ownBlock = some b ∧ w.heap.size ≤ b
theorem ownBlock_lt {w : World} {lo : Nat} {e : TypeId} {size n : Nat} {v : Value} {xs : List Value} (h : w.ownsRow lo e size v n xs) {b : Nat} (hb : v.ownBlock = some b) : lo ≤ b ∧ b < w.heap.size := by
  rcases h.2 with ⟨rfl, _⟩ | ⟨g, cap, cur, rfl, hb0, hg, rest⟩
  · cases hb
  · have : b = g := by simpa [Value.ownBlock] using hb.symm
    subst this
    exact ⟨hb0, (Array.getElem?_eq_some_iff.1 hg).1⟩
theorem rowE_move {w w' : World} {lo : Nat} {e : TypeId} {size n : Nat} {v : Value} {xs : List Value} (h : w.ownsRow lo e size v n xs) (hb : ∀ b, lo ≤ b → b < w.heap.size → w'.heap[b]? = w.heap[b]?) : w'.ownsRow lo e size v n xs := by
  refine ⟨h.1, ?_⟩
  rcases h.2 with hn | ⟨g, cap, cur, rfl, hb0, hg, rest⟩
  · exact .inl hn
  · exact .inr ⟨g, cap, cur, rfl, hb0, (hb g hb0 (Array.getElem?_eq_some_iff.1 hg).1).trans hg, rest⟩
theorem grown_refl (w : World) (r : Option Nat) : w.grownBy w r := ⟨rfl, rfl, rfl, Nat.le_refl _, fun _ _ _ => rfl⟩
theorem QG.refl {w0 w : World} {r : Value} {acc : List UInt8} (h : w.ownsRow w0.heap.size 5 1 r acc.length (bytesV acc)) : QG w0 r w r acc w := ⟨h, grown_refl w _, .inl rfl⟩
theorem QG.trans {w0 w w1 w2 : World} {r r1 r2 : Value} {a1 a2 : List UInt8} (h : QG w0 r w r1 a1 w1) (k : QG w0 r1 w1 r2 a2 w2) : QG w0 r w r2 a2 w2 := by
  refine ⟨k.row, ⟨k.grown.os.trans h.grown.os, k.grown.tape.trans h.grown.tape, k.grown.output.trans h.grown.output, Nat.le_trans h.grown.size k.grown.size, fun b hb hne => ?_⟩, ?_⟩
  · rw [k.grown.block b (Nat.lt_of_lt_of_le hb h.grown.size) ?_, h.grown.block b hb hne]
    intro e
    rcases h.own with h1 | ⟨c, h1, h2⟩
    · rw [h1] at e; exact hne e
    · rw [h1] at e
      simp only [Option.some.injEq] at e
      omega
  · rcases k.own with k1 | ⟨c, k1, k2⟩
    · rcases h.own with h1 | ⟨c, h1, h2⟩
      · exact .inl (k1.trans h1)
      · exact .inr ⟨c, k1.trans h1, h2⟩
    · exact .inr ⟨c, k1, Nat.le_trans h.grown.size k2⟩
theorem QG.acc {w0 w w1 : World} {r r1 : Value} {a a' : List UInt8} (h : QG w0 r w r1 a w1) (e : a = a') : QG w0 r w r1 a' w1 := e ▸ h
/-- A world that grows alone. -/
theorem QG.keep {w0 w w1 w2 : World} {r r1 : Value} {a1 : List UInt8} (h : QG w0 r w r1 a1 w1) (k : Below w1.heap.size w1 w2) : QG w0 r w r1 a1 w2 :=
  ⟨rowE_move h.row fun b _ h2 => k.block b h2, ⟨k.os.trans h.grown.os, k.tape.trans h.grown.tape, k.output.trans h.grown.output, Nat.le_trans h.grown.size k.size, fun b hb hne => (k.block b (Nat.lt_of_lt_of_le hb h.grown.size)).trans (h.grown.block b hb hne)⟩, h.own⟩
theorem QG.grow {w0 w w1 w2 : World} {r r1 r2 : Value} {acc l : List UInt8} (h : QG w0 r w r1 acc w1) (hO : w2.ownsRow w0.heap.size 5 1 r2 (acc.length + l.length) (bytesV acc ++ bytesV l)) (hG : w1.grownBy w2 r1.ownBlock) (hat : r2.ownBlock = r1.ownBlock ∨ r2.ownBlock = some w1.heap.size) : QG w0 r w r2 (acc ++ l) w2 :=
  h.trans ⟨by rw [List.length_append, bytesV_append]; exact hO, hG, hat.imp id fun h => ⟨_, h, Nat.le_refl _⟩⟩
/-- What lies below the row's base is kept. -/
theorem QG.below {w0 w w1 : World} {r r1 : Value} {a a1 : List UInt8} (h : QG w0 r w r1 a1 w1) (hr : w.ownsRow w0.heap.size 5 1 r a.length (bytesV a)) (hb : Below w0.heap.size w0 w) : Below w0.heap.size w0 w1 :=
  ⟨h.grown.os.trans hb.os, h.grown.tape.trans hb.tape, h.grown.output.trans hb.output, Nat.le_trans hb.size h.grown.size, fun k hk => (h.grown.block k (Nat.lt_of_lt_of_le hk hb.size) (fun e => by have := (ownBlock_lt hr e.symm).1; omega)).trans (hb.block k hk)⟩
/-- The cells of a box that lies behind the row. -/
theorem QG.box {w0 w w1 : World} {r r1 : Value} {a a1 : List UInt8} {c0 c1 c2 c3 c4 : Value} (hr : w.ownsRow w0.heap.size 5 1 r a.length (bytesV a)) (h : QG w0 r (w.alloc (.cells #[c0, c1, c2, c3, c4] 25)) r1 a1 w1) :
    w1.cell? ⟨w.heap.size, 0, none⟩ = some c0 ∧ w1.cell? ⟨w.heap.size, 1, none⟩ = some c1 ∧ w1.cell? ⟨w.heap.size, 2, none⟩ = some c2 ∧ w1.cell? ⟨w.heap.size, 3, none⟩ = some c3 ∧ w1.cell? ⟨w.heap.size, 4, none⟩ = some c4 ∧ w.heap.size < w1.heap.size := by
  have hz := h.grown.size
  have hb : w1.heap[w.heap.size]? = (w.alloc (.cells #[c0, c1, c2, c3, c4] 25)).heap[w.heap.size]? := h.grown.block w.heap.size (by simp) (fun e => by have := (ownBlock_lt hr e.symm).2; omega)
  refine ⟨?_, ?_, ?_, ?_, ?_, by simp at hz; omega⟩
  · rw [World.cell?_of_block (a := ⟨w.heap.size, 0, none⟩) hb]; simp [go_sem]
  · rw [World.cell?_of_block (a := ⟨w.heap.size, 1, none⟩) hb]; simp [go_sem]
  · rw [World.cell?_of_block (a := ⟨w.heap.size, 2, none⟩) hb]; simp [go_sem]
  · rw [World.cell?_of_block (a := ⟨w.heap.size, 3, none⟩) hb]; simp [go_sem]
  · rw [World.cell?_of_block (a := ⟨w.heap.size, 4, none⟩) hb]; simp [go_sem]
theorem builtE_cell (w : World) (l : List UInt8) (j : Nat) (u : Value) (hj : (bytesV l)[j]? = some u) : (w.alloc (.cells (bytesV l).toArray 5)).cell? ((⟨w.heap.size, 0, none⟩ : Addr).add j) = some u := by
  have e0 : (w.alloc (.cells (bytesV l).toArray 5)).heap[w.heap.size]? = some (.cells (bytesV l).toArray 5) := by show (w.heap.push _)[w.heap.size]? = _; simp
  have e1 : ((⟨w.heap.size, 0, none⟩ : Addr).add j) = ⟨w.heap.size, j, none⟩ := by simp [Addr.add]; intro h; exact h.symm
  rw [e1]
  unfold World.cell?
  rw [e0]
  show (if _ then none else (bytesV l).toArray[j]?) = some u
  rw [if_neg (by simp)]
  simpa using hj
theorem srcE_built (w : World) (l : List UInt8) : Src Tryz.prog 1 63 (.slice (some ⟨w.heap.size, 0, none⟩) l.length l.length) l.length (bytesV l) (w.alloc (.cells (bytesV l).toArray 5)) :=
  Src.ofSlice _ Tryz.underlying63 ⟨w.heap.size, 0, none⟩ l.length l.length (bytesV l) (by rw [bytesV_length]; omega) (builtE_cell w l) (fun u hu => by obtain ⟨b, _, rfl⟩ := List.mem_map.1 hu; rfl)
end Go.Proofs.YtknakfpciccoaaaGreatDoor
/- Bytes and values, pure: what was written is read as it was, and what was read is written so. -/
namespace Go.Proofs.YtknakfpciccoaaaGreatDoor
open Go.RowKit

theorem ba_extT {a b : ByteArray} (h : a.data.toList = b.data.toList) : a = b := by
  apply ByteArray.ext
  exact Array.toList_inj.1 h
theorem pre_app (x y : List UInt8) {n : Nat} (h : n = x.length) : pre (baL (x ++ y)) n = baL x := by
  subst h
  apply ba_extT
  simp [pre, baL]
theorem suf_app (x y : List UInt8) {n : Nat} (h : n = x.length) : suf (baL (x ++ y)) n = baL y := by
  subst h
  apply ba_extT
  have e : (baL (x ++ y)).size = x.length + y.length := by rw [baL_size, List.length_append]
  unfold suf
  rw [e]
  simp [baL]
theorem baL_self (s : ByteArray) : baL s.data.toList = s := by
  apply ba_extT
  simp [baL]
/-- A number, out of its bytes. -/
theorem emod_step (n : Int) (k : Nat) : n % 256 ^ (k + 1) = (n / 256 ^ k % 256) * 256 ^ k + n % 256 ^ k := by
  have hp : (0 : Int) < 256 ^ k := Int.pow_pos (by decide)
  rw [Int.pow_succ]
  generalize (256 : Int) ^ k = d at hp ⊢
  have h1 := Int.emod_add_mul_ediv n d
  have h2 := Int.emod_add_mul_ediv (n / d) 256
  have b1 := Int.emod_nonneg n (show d ≠ 0 by omega)
  have b2 := Int.emod_lt_of_pos n hp
  have b3 := Int.emod_nonneg (n / d) (show (256 : Int) ≠ 0 by omega)
  have b4 := Int.emod_lt_of_pos (n / d) (show (0 : Int) < 256 by omega)
  generalize n / d % 256 = r2 at *
  generalize n / d / 256 = q2 at *
  generalize n % d = r at *
  have e : n = (r2 * d + r) + d * 256 * q2 := by
    rw [← h1, ← h2, Int.mul_add, Int.mul_comm d r2, Int.mul_assoc]
    omega
  have m1 : 0 ≤ r2 * d := Int.mul_nonneg b3 (by omega)
  have m2 : r2 * d ≤ 255 * d := Int.mul_le_mul_of_nonneg_right (by omega) (by omega)
  rw [e, Int.add_mul_emod_self_left]
  exact Int.emod_eq_of_lt (by omega) (by omega)
theorem numL_beL (n : Int) : ∀ (k a : Nat), (((beL n k).foldl (fun n c => n * 256 + c.toNat) a : Nat) : Int) = a * 256 ^ k + n % 256 ^ k
  | 0, a => by simp [beL]
  | k + 1, a => by
    rw [beL, List.foldl_cons, numL_beL n k, emod_step]
    have e : ((a * 256 + (byAt n k).toNat : Nat) : Int) = a * 256 + n / 256 ^ k % 256 := by rw [Int.natCast_add, Int.natCast_mul, byAt_toNat]; rfl
    rw [e, Int.add_mul, Int.pow_succ, Int.mul_assoc, Int.mul_comm 256 (256 ^ k)]
    omega
theorem numB_beL (n : Int) (k : Nat) : (numB (baL (beL n k)) : Int) = n % 256 ^ k := by
  have := numL_beL n k 0
  unfold numB numL
  rw [baL_list, this]
  simp
theorem numB_size (k b : Nat) (h : k < 256 ^ b) : numB (baL (beL (k : Int) b)) = k := by
  have h1 := numB_beL (k : Int) b
  have e : ((256 ^ b : Nat) : Int) = (256 : Int) ^ b := Int.natCast_pow 256 b
  have h2 : (k : Int) < (256 : Int) ^ b := by rw [← e]; exact Int.ofNat_lt.2 h
  rw [Int.emod_eq_of_lt (by omega) h2] at h1
  exact Int.ofNat.inj h1
theorem szB_app (x : ByteArray) (r : List UInt8) (b : Nat) (h : x.size < 256 ^ b) : szB (baL (beL (x.size : Int) b ++ (x.data.toList ++ r))) b = some (x, baL r) := by
  have e1 : pre (baL (beL (x.size : Int) b ++ (x.data.toList ++ r))) b = baL (beL (x.size : Int) b) := pre_app _ _ (by rw [beL_len])
  have e2 : suf (baL (beL (x.size : Int) b ++ (x.data.toList ++ r))) b = baL (x.data.toList ++ r) := suf_app _ _ (by rw [beL_len])
  have e3 : pre (baL (x.data.toList ++ r)) x.size = x := (pre_app _ _ rfl).trans (baL_self x)
  have e4 : suf (baL (x.data.toList ++ r)) x.size = baL r := suf_app _ _ rfl
  have hs : x.data.toList.length = x.size := rfl
  unfold szB
  rw [e1, e2, numB_size _ _ h, e3, e4, if_neg (by rw [baL_size, List.length_append, beL_len]; omega), if_neg (by rw [baL_size, List.length_append, hs]; omega)]

/-- A value, as it comes out of bytes. -/
def canT : Nat → T → T
  | 0, t => mkT (kindOf t) (nOf t) (sOf t) [] []
  | m + 1, t => mkT (kindOf t) (nOf t) (sOf t) ((lOf t).map (canT m)) (kOf t)
theorem canT_kind (m : Nat) (t : T) : kindOf (canT m t) = kindOf t := by cases m <;> rfl
theorem canT_n (m : Nat) (t : T) : nOf (canT m t) = nOf t := by cases m <;> rfl
theorem canT_s (m : Nat) (t : T) : sOf (canT m t) = sOf t := by cases m <;> rfl
theorem canT_nL (m : Nat) (t : T) : nL (canT (m + 1) t) = nL t := by unfold nL; rw [canT, lOf_mk, List.length_map]
theorem canT_kOf (m : Nat) (t : T) : kOf (canT (m + 1) t) = kOf t := by rw [canT, kOf_mk]
theorem canT_nK (m : Nat) (t : T) : nK (canT (m + 1) t) = nK t := by unfold nK; rw [canT_kOf]
theorem canT_nam (m : Nat) (t : T) : nam (canT (m + 1) t) = nam t := by funext i; unfold nam; rw [canT_kOf]
theorem canT_elt (m : Nat) (t : T) {i : Nat} (h : i < nL t) : elt (canT (m + 1) t) i = canT m (elt t i) := by
  have h' : i < (lOf t).length := h
  unfold elt
  rw [canT, lOf_mk]
  simp [List.getD_eq_getElem?_getD, h']
theorem nil_of {α : Type} {l : List α} (h : l.length = 0) : l = [] := List.eq_nil_of_length_eq_zero h
theorem canT_leaf (m : Nat) {t : T} (h : nL t = 0) (k : nK t = 0) : canT m t = leafT (kindOf t) (nOf t) (sOf t) := by
  cases m with
  | zero => rfl
  | succ m =>
    have h1 : lOf t = [] := nil_of h
    have h2 : kOf t = [] := nil_of k
    rw [canT, h1, h2]
    rfl
end Go.Proofs.YtknakfpciccoaaaGreatDoor
/- Bytes and values, pure: what was written is read as it was. -/
namespace Go.Proofs.YtknakfpciccoaaaGreatDoor
open Go.RowKit

theorem byAt_small {n : Int} (h0 : 0 ≤ n) (h1 : n < 256) : (byAt n 0).toNat = n.toNat := by
  have := byAt_toNat n 0
  simp only [Int.pow_zero, Int.ediv_one] at this
  omega
theorem numB_one (c : UInt8) : numB (baL [c]) = c.toNat := by simp [numB, numL, baL]
/-- The first byte, and the rest. -/
theorem head_app (c : UInt8) (y : List UInt8) : pre (baL (c :: y)) 1 = baL [c] ∧ suf (baL (c :: y)) 1 = baL y ∧ ¬ (baL (c :: y)).size < 1 := by
  refine ⟨pre_app [c] y rfl, suf_app [c] y rfl, ?_⟩
  rw [baL_size, List.length_cons]
  omega
theorem kind_num {t : T} (h0 : 0 ≤ kindOf t) (h1 : kindOf t < 256) (y : List UInt8) : (numB (pre (baL (kindB t :: y)) 1) : Int) = kindOf t := by
  rw [(head_app _ _).1, numB_one]
  have := byAt_small h0 h1
  unfold kindB
  omega
theorem wrap_back {n : Int} (h0 : -9223372036854775808 ≤ n) (h1 : n ≤ 9223372036854775807) : IntKind.i64.wrap (numB (baL (beL n 8)) : Int) = n := by
  rw [numB_beL, IntKind.wrap_i64]
  have : (256 : Int) ^ 8 = 18446744073709551616 := by decide
  rw [this]
  omega
theorem dec_leaf (c : Bool) (b : Option (ByteArray → Option (T × ByteArray))) {t : T} (hg : leafGood t) (hf : Fits t) (r : List UInt8) : stepD c b (baL (leafE t ++ r)) = some (leafT (kindOf t) (nOf t) (sOf t), baL r) := by
  obtain ⟨_, _, hg⟩ := hg
  have hs : (sOf t).data.toList.length = (sOf t).size := rfl
  rcases hg with ⟨hk, hn, ht⟩ | ⟨hk, hn, ht⟩ | ⟨hk, ht⟩ | ⟨hk, hn, hz, _⟩
  · have e : leafE t ++ r = kindB t :: r := by unfold leafE; rw [if_neg (by omega), if_neg (by omega), if_neg (by omega)]; rfl
    have hkn := kind_num (t := t) (by omega) (by omega) r
    obtain ⟨h1, h2, h3⟩ := head_app (kindB t) r
    rw [e]
    unfold stepD
    rw [if_neg h3, if_pos (by omega), h2, hk, hn, noText_eq ht]
  · have e : leafE t ++ r = kindB t :: (byAt (nOf t) 0 :: r) := by unfold leafE; rw [if_pos hk]; rfl
    have hkn := kind_num (t := t) (by omega) (by omega) (byAt (nOf t) 0 :: r)
    obtain ⟨h1, h2, h3⟩ := head_app (kindB t) (byAt (nOf t) 0 :: r)
    obtain ⟨h4, h5, h6⟩ := head_app (byAt (nOf t) 0) r
    have hb := byAt_small (n := nOf t) (by omega) (by omega)
    rw [e]
    unfold stepD
    rw [if_neg h3, if_neg (by omega), if_pos (by omega), h2, if_neg h6, h4, numB_one, if_neg (by omega), h5, hk, noText_eq ht]
    congr 3
    omega
  · have e : leafE t ++ r = kindB t :: (beL (nOf t) 8 ++ r) := by unfold leafE; rw [if_neg (by omega), if_pos hk]; rfl
    have hkn := kind_num (t := t) (by omega) (by omega) (beL (nOf t) 8 ++ r)
    obtain ⟨h1, h2, h3⟩ := head_app (kindB t) (beL (nOf t) 8 ++ r)
    have h4 : pre (baL (beL (nOf t) 8 ++ r)) 8 = baL (beL (nOf t) 8) := pre_app _ _ (by rw [beL_len])
    have h5 : suf (baL (beL (nOf t) 8 ++ r)) 8 = baL r := suf_app _ _ (by rw [beL_len])
    have h6 : ¬ (baL (beL (nOf t) 8 ++ r)).size < 8 := by rw [baL_size, List.length_append, beL_len]; omega
    rw [e]
    unfold stepD
    rw [if_neg h3, if_neg (by omega), if_neg (by omega), if_pos (by omega), h2, if_neg h6, h4, h5, wrap_back hf.n0 hf.n1, hk, noText_eq ht]
  · have e : leafE t ++ r = kindB t :: (beL (sOf t).size 4 ++ ((sOf t).data.toList ++ r)) := by unfold leafE; rw [if_neg (by omega), if_neg (by omega), if_pos hk]; simp
    have hkn := kind_num (t := t) (by omega) (by omega) (beL (sOf t).size 4 ++ ((sOf t).data.toList ++ r))
    obtain ⟨h1, h2, h3⟩ := head_app (kindB t) (beL (sOf t).size 4 ++ ((sOf t).data.toList ++ r))
    rw [e]
    unfold stepD
    rw [if_neg h3, if_neg (by omega), if_neg (by omega), if_neg (by omega), if_pos (by omega), h2, szB_app _ _ _ (by omega), hk, hn]
    rfl
/-- What follows from an entry on. -/
def restB (g : T → List UInt8) (t : T) : Nat → Nat → List UInt8
  | _, 0 => []
  | k, j + 1 => nameE t k ++ (g (elt t k) ++ restB g t (k + 1) j)
theorem catB_rest (g : T → List UInt8) (t : T) : ∀ j k, catB g t k ++ restB g t k j = catB g t (k + j)
  | 0, k => by simp [restB]
  | j + 1, k => by
    have := catB_rest g t j (k + 1)
    rw [restB, show k + (j + 1) = k + 1 + j by omega, ← this, catB]
    simp
theorem dropC {α : Type} {l : List α} {k : Nat} {d : α} (h : k < l.length) : l.drop k = l.getD k d :: l.drop (k + 1) := by
  rw [List.drop_eq_getElem_cons h]
  simp [List.getD_eq_getElem?_getD, h]
theorem ents_rest {f : ByteArray → Option (T × ByteArray)} {g : T → List UInt8} {c : T → T} {t : T} (hf : ∀ i, i < nL t → ∀ r, f (baL (g (elt t i) ++ r)) = some (c (elt t i), baL r)) (hg : ∀ i, i < nL t → 1 ≤ (g (elt t i)).length)
    (h6 : kindOf t = 6 → nK t = nL t ∧ ∀ i, i < nK t → (nam t i).size < 65536) :
    ∀ j k n, k + j = nL t → (restB g t k j).length ≤ n → ents f (kindOf t == 6) n (baL (restB g t k j)) = some (if kindOf t = 6 then (kOf t).drop k else [], ((lOf t).drop k).map c)
  | 0, k, n, hk, hn => by
    have h1 : (lOf t).drop k = [] := List.drop_eq_nil_of_le (by show nL t ≤ k; omega)
    have h2 : kindOf t = 6 → (kOf t).drop k = [] := fun h => List.drop_eq_nil_of_le (by show nK t ≤ k; have := (h6 h).1; omega)
    have h3 : (if kindOf t = 6 then (kOf t).drop k else []) = [] := by split <;> first | exact h2 ‹_› | rfl
    rw [h1, h3]
    cases n <;> rfl
  | j + 1, k, n, hk, hn => by
    have hkl : k < nL t := by omega
    have h0 := hg k hkl
    simp only [restB, List.length_append] at hn
    obtain ⟨n, rfl⟩ : ∃ m, n = m + 1 := ⟨n - 1, by omega⟩
    have ih := ents_rest hf hg h6 j (k + 1) n (by omega) (by omega)
    have hsz : ¬ (baL (restB g t k (j + 1))).size = 0 := by rw [baL_size]; simp only [restB, List.length_append]; omega
    have eL : (lOf t).drop k = elt t k :: (lOf t).drop (k + 1) := dropC hkl
    unfold ents
    rw [if_neg hsz]
    by_cases k6 : kindOf t = 6
    · have e6 : (kindOf t == 6) = true := by simpa using k6
      have hkk : k < nK t := by have := (h6 k6).1; omega
      have eK : (kOf t).drop k = nam t k :: (kOf t).drop (k + 1) := dropC hkk
      have e1 : restB g t k (j + 1) = beL (nam t k).size 2 ++ ((nam t k).data.toList ++ (g (elt t k) ++ restB g t (k + 1) j)) := by rw [restB, nameE, if_pos k6]; simp
      rw [e6] at ih ⊢
      rw [e1, if_pos rfl, szB_app _ _ _ ((h6 k6).2 k hkk)]
      simp only [Option.bind_some]
      rw [hf k hkl]
      simp only [Option.bind_some]
      rw [ih, eL, eK]
      simp [k6]
    · have e6 : (kindOf t == 6) = false := by simpa using k6
      have e1 : restB g t k (j + 1) = g (elt t k) ++ restB g t (k + 1) j := by rw [restB, nameE, if_neg k6]; rfl
      rw [e6] at ih ⊢
      rw [e1]
      simp only [Bool.false_eq_true, if_false, Option.bind_some]
      rw [hf k hkl]
      simp only [Option.bind_some]
      rw [ih, eL]
      simp [k6]
theorem encT_pos (m : Nat) (t : T) : 1 ≤ (encT m t).length := by
  cases m with
  | zero => simp [encT, leafE]
  | succ m => unfold encT; split <;> simp [boxE, leafE]
theorem elt_len {g : T → List UInt8} {t : T} {i n : Nat} (h : i < n) : (g (elt t i)).length ≤ (catB g t n).length := by
  have := catB_mono g t (show i + 1 ≤ n from h)
  simp only [catB, List.length_append] at this
  omega
theorem nam_le {t : T} : ∀ k, namesF t k = true → ∀ i, i < k → (nam t i).size ≤ 4000
  | 0, _, i, hi => absurd hi (by omega)
  | k + 1, h, i, hi => by
    simp only [namesF, Bool.and_eq_true, decide_eq_true_eq] at h
    by_cases e : i = k
    · subst e; exact h.2.2
    · exact nam_le k h.1 i (by omega)
theorem dec_enc {w : World} : ∀ (m f : Nat) (v : Value) (t : T), At w f v t → Good m t → (encT m t).length ≤ 100000000 → ∀ r, decP m (baL (encT m t ++ r)) = some (canT m t, baL r)
  | 0, f, v, t, h, hg, _, r => by
    obtain ⟨_, La, Ka, Lc, Kc, _, _, hf, _⟩ := h.open
    rw [canT_leaf 0 hg.1 hg.2.1]
    exact dec_leaf false none hg hf r
  | m + 1, f, v, t, h, hg, hl, r => by
    obtain ⟨g, La, Ka, Lc, Kc, _, _, hf, he, _⟩ := h.open
    rcases hg with hg | ⟨hn, ht, hgi, hk⟩
    · have k5 : kindOf t ≠ 5 ∧ kindOf t ≠ 6 := by
        obtain ⟨_, _, h⟩ := hg
        rcases h with ⟨h, _⟩ | ⟨h, _⟩ | ⟨h, _⟩ | ⟨h, _⟩ <;> omega
      rw [canT_leaf (m + 1) hg.1 hg.2.1, encT_leaf k5.1 k5.2]
      exact dec_leaf false (some (decP m)) hg hf r
    · have hk2 : kindOf t = 5 ∨ kindOf t = 6 := by rcases hk with ⟨hk, _⟩ | ⟨hk, _⟩ <;> omega
      have h6 : kindOf t = 6 → nK t = nL t ∧ ∀ i, i < nK t → (nam t i).size < 65536 := fun h6 => by
        rcases hk with ⟨hk, _⟩ | ⟨_, hk, hnf, _⟩
        · omega
        · exact ⟨hk, fun i hi => by have := nam_le _ hnf i hi; omega⟩
      have h5 : kindOf t = 5 → kOf t = [] := fun h5 => by
        rcases hk with ⟨_, hk⟩ | ⟨hk, _⟩
        · exact nil_of hk
        · omega
      rw [encT_box hk2] at hl ⊢
      have hlb : (catB (encT m) t (nL t)).length + 5 ≤ 100000000 := by simp only [boxE, List.length_cons, List.length_append, beL_len] at hl; omega
      have hr := ents_rest (f := decP m) (g := encT m) (c := canT m) (t := t) (fun i hi r => by
          obtain ⟨b, o, c0, c1, c2, c3, c4, _, _, _, _, _, _, _, ha⟩ := he.out i hi
          exact dec_enc m g _ _ ha.out (hgi i hi) (by have := elt_len (g := encT m) (t := t) hi; omega) r)
        (fun i _ => encT_pos m _) h6 (nL t) 0 (catB (encT m) t (nL t)).length (by omega) (by have := catB_rest (encT m) t (nL t) 0; simp only [catB, List.nil_append, Nat.zero_add] at this; rw [this]; exact Nat.le_refl _)
      have hc : restB (encT m) t 0 (nL t) = catB (encT m) t (nL t) := by have := catB_rest (encT m) t (nL t) 0; simpa [catB] using this
      rw [hc] at hr
      generalize catB (encT m) t (nL t) = body at *
      have hkn := kind_num (t := t) (by omega) (by omega) (beL body.length 4 ++ (body ++ r))
      obtain ⟨h1, h2, h3⟩ := head_app (kindB t) (beL body.length 4 ++ (body ++ r))
      have e : boxE t body ++ r = kindB t :: (beL body.length 4 ++ (body ++ r)) := by simp [boxE]
      have hz : szB (baL (beL body.length 4 ++ (body ++ r))) 4 = some (baL body, baL r) := by
        have := szB_app (baL body) r 4 (by rw [baL_size]; omega)
        rw [baL_size, baL_list] at this
        exact this
      have h66 : (numB (pre (baL (kindB t :: (beL body.length 4 ++ (body ++ r)))) 1) == 6) = (kindOf t == 6) := by
        by_cases k6 : kindOf t = 6
        · have : numB (pre (baL (kindB t :: (beL body.length 4 ++ (body ++ r)))) 1) = 6 := by omega
          rw [this, k6]; rfl
        · have : numB (pre (baL (kindB t :: (beL body.length 4 ++ (body ++ r)))) 1) ≠ 6 := by omega
          rw [beq_eq_false_iff_ne.2 this, beq_eq_false_iff_ne.2 k6]
      rw [e]
      unfold decP stepD
      rw [if_neg h3, if_neg (by omega), if_neg (by omega), if_neg (by omega), if_neg (by omega), if_pos (by omega), h2]
      simp only [Option.bind_some]
      rw [hz]
      simp only [Option.bind_some]
      rw [h66, baL_size, hr]
      simp only [Option.bind_some, List.drop_zero]
      rw [canT, hn, noText_eq ht]
      congr 3
      split
      · rfl
      · exact (h5 (by omega)).symm
end Go.Proofs.YtknakfpciccoaaaGreatDoor
/- Bytes and values, pure: a value and itself, read anew. -/
namespace Go.Proofs.YtknakfpciccoaaaGreatDoor
open Go.RowKit

theorem ordL_can {g : T → T → Int} {m : Nat} {t : T} : ∀ k, k ≤ nL t → (∀ i, i < k → g (elt t i) (canT m (elt t i)) = 0) → ordL g t (canT (m + 1) t) k = 0
  | 0, _, _ => rfl
  | k + 1, hk, h => by
    rw [ordL_step (ordL_can k (by omega) fun i hi => h i (by omega)), canT_nam, cmpS_self, canT_elt m t (by omega), h k (by omega)]
    simp
theorem cmp_can : ∀ (f m : Nat) (t : T), Good m t → cmpT f t (canT m t) = 0
  | 0, m, t, _ => rfl
  | f + 1, m, t, hg => by
    have hb : isBox t = true → ordE (cmpT f) t (canT m t) = 0 := fun hb => by
      have hk : kindOf t = 5 ∨ kindOf t = 6 := by simpa [isBox] using hb
      cases m with
      | zero =>
        obtain ⟨_, _, h⟩ := hg
        rcases h with ⟨h, _⟩ | ⟨h, _⟩ | ⟨h, _⟩ | ⟨h, _⟩ <;> omega
      | succ m =>
        rcases hg with ⟨_, _, h⟩ | ⟨_, _, he, _⟩
        · rcases h with ⟨h, _⟩ | ⟨h, _⟩ | ⟨h, _⟩ | ⟨h, _⟩ <;> omega
        · unfold ordE
          rw [canT_nL, Nat.min_self, ordL_can (nL t) (Nat.le_refl _) (fun i hi => cmp_can f m _ (he i hi)), cmpI_self]
          simp
    unfold cmpT
    rw [canT_kind, canT_n, canT_s, if_neg (by simp)]
    split
    · exact cmpI_self _
    · split
      · exact cmpS_self _
      · split
        · exact hb ‹_›
        · rfl
theorem namesF_can (m : Nat) (t : T) : ∀ k, namesF (canT (m + 1) t) k = namesF t k
  | 0 => rfl
  | k + 1 => by rw [namesF, namesF, namesF_can m t k, canT_nam]
theorem dupIn_can (m : Nat) (t : T) (i : Nat) : ∀ k, dupIn (canT (m + 1) t) i k = dupIn t i k
  | 0 => rfl
  | k + 1 => by rw [dupIn, dupIn, dupIn_can m t i k, canT_nam]
theorem dupTo_can (m : Nat) (t : T) : ∀ k, dupTo (canT (m + 1) t) k = dupTo t k
  | 0 => rfl
  | k + 1 => by rw [dupTo, dupTo, dupTo_can m t k, dupIn_can]
theorem noText_can (m : Nat) (t : T) : noText (canT m t) = noText t := by unfold noText; rw [canT_s]
theorem leaf_can (m : Nat) {t : T} (h : leafGood t) : leafGood (canT m t) := by
  have e := canT_leaf m h.1 h.2.1
  have hl : nL (canT m t) = 0 := by rw [e]; rfl
  have hk : nK (canT m t) = 0 := by rw [e]; rfl
  obtain ⟨_, _, h⟩ := h
  refine ⟨hl, hk, ?_⟩
  rw [canT_kind, canT_n, canT_s, noText_can]
  exact h
theorem good_can : ∀ (m : Nat) (t : T), Good m t → Good m (canT m t)
  | 0, t, h => leaf_can 0 h
  | m + 1, t, h => by
    rcases h with h | ⟨h1, h2, he, hk⟩
    · exact .inl (leaf_can (m + 1) h)
    · refine .inr ⟨by rw [canT_n]; exact h1, by rw [noText_can]; exact h2, fun i hi => ?_, ?_⟩
      · rw [canT_nL] at hi
        rw [canT_elt m t hi]
        exact good_can m _ (he i hi)
      · rw [canT_kind, canT_nK, canT_nL, namesF_can, dupTo_can]
        exact hk
theorem sumK_can (m : Nat) (t : T) : ∀ k, sumK (canT (m + 1) t) k = sumK t k
  | 0 => rfl
  | k + 1 => by rw [sumK, sumK, sumK_can m t k, canT_nam]
theorem sumL_can {m : Nat} {t : T} : ∀ k, k ≤ nL t → (∀ i, i < k → bytesT m (canT m (elt t i)) = bytesT m (elt t i)) → sumL (bytesT m) (canT (m + 1) t) k = sumL (bytesT m) t k
  | 0, _, _ => rfl
  | k + 1, hk, h => by rw [sumL, sumL, sumL_can k (by omega) (fun i hi => h i (by omega)), canT_elt m t (by omega), h k (by omega)]
theorem bytes_can : ∀ (m : Nat) (t : T), bytesT m (canT m t) = bytesT m t
  | 0, t => by unfold bytesT leafBytes; rw [canT_kind, canT_s]
  | m + 1, t => by
    unfold bytesT leafBytes
    rw [canT_kind, canT_s, canT_nL, canT_nK, sumK_can, sumL_can (nL t) (Nat.le_refl _) (fun i _ => bytes_can m _)]
theorem isV_can {t : T} (h : isV t = true) : isV (canT 12 t) = true := by
  obtain ⟨h1, h2⟩ := (isV_iff t).1 h
  exact (isV_iff _).2 ⟨good_can 12 t h1, by rw [bytes_can]; exact h2⟩
/-- What is written is read. -/
theorem res_enc {w : World} {f : Nat} {v : Value} {t : T} (ha : At w f v t) (h : isV t = true) : resT (baL (encT 12 t)) = some (canT 12 t) := by
  obtain ⟨h1, h2⟩ := (isV_iff t).1 h
  have hl := encT_len 12 t h1
  have hd := dec_enc 12 f v t ha h1 (by omega) []
  rw [List.append_nil] at hd
  rw [resT_P, if_neg (by rw [baL_size]; omega), hd]
  simp only [Option.bind_some, okT]
  rw [if_pos ⟨rfl, isV_can h⟩]
end Go.Proofs.YtknakfpciccoaaaGreatDoor
