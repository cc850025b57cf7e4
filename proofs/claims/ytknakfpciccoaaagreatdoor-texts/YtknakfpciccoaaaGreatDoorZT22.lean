import Derived.Test.YtknakfpciccoaaaGreatDoorZT9
import Derived.Test.YtknakfpciccoaaaGreatDoorZT21
import Derived.Test.YtknakfpciccoaaaGreatDoorZT2
import Derived.Test.YtknakfpciccoaaaGreatDoorZT18
import Derived.Test.YtknakfpciccoaaaGreatDoorZT19
import Derived.Lib.ItoaNum
import Derived.KernelRfl
import Derived.Shelf.LaysM
import Derived.Shelf.Strconv.Itoa3
import Derived.Test.YtknakfpciccoaaaGreatDoorProg
import Derived.Test.YtknakfpciccoaaaGreatDoorZT4
/- The walk of the program's Compare. -/
namespace Go.Proofs.YtknakfpciccoaaaGreatDoor
open Go.RowKit

/-- What is answered: the order of two values, or the error. -/
def ansN (ok : Bool) (n : Int) : Int := if ok then n else 0
def ansE (ok : Bool) : Int := if ok then 0 else 5

set_option maxHeartbeats 1000000 in
set_option maxRecDepth 100000 in
theorem tCompare_any {Tb : World → Prop} (hV : ValidSaid Tb) (hL : Lies Tb) (f g : Nat) (va vb : Value) (a b : T) (w : World) (h : At w f va a) (h' : At w g vb b) (hT : Tb w) :
    Calls Tryz.prog 23 #[va, vb] w fun e w' => e = .returned (.tuple #[.int .i64 (ansN (isV a && isV b) (cmpT f a b)), .int .i64 (ansE (isV a && isV b))]) ∧ Below w.heap.size w w' := by
  have HA := hid h
  have HA' := hid h'
  have HT := hid hT
  obtain ⟨f1, La, Ka, Lc, Kc, hf1, rfl, hf, hl, hk⟩ := h.open
  obtain ⟨g1, Ma, Na, Mc, Nc, hg1, rfl, hf', hl', hk'⟩ := h'.open
  clear h h' hf hf' hf1 hg1 hl hk hl' hk' hT
  have HB1 : Hid (Below w.heap.size w ((w.alloc (.cells #[.int .i64 (kindOf a), .int .i64 (nOf a), .string (sOf a), .slice La (nL a) Lc, .slice Ka (nK a) Kc] 25)).alloc (.cells #[.int .i64 (kindOf b), .int .i64 (nOf b), .string (sOf b), .slice Ma (nL b) Mc, .slice Na (nK b) Nc] 25))) := ((Below.refl _ _).alloc (Nat.le_refl _) _).alloc (by simp) _
  go_enter Tryz.func23, Tryz.ntmps23
  go_wp2_with fail
  refine (isValue_any hV hL f _ a _ (HA.out.keep HB1.out) (hL w HT.out _ _ HT.out HB1.out)).mono ?_
  rintro e w2 ⟨rfl, b2⟩
  have HB2 : Hid (Below (w.heap.size + 2) ((w.alloc (.cells #[.int .i64 (kindOf a), .int .i64 (nOf a), .string (sOf a), .slice La (nL a) Lc, .slice Ka (nK a) Kc] 25)).alloc (.cells #[.int .i64 (kindOf b), .int .i64 (nOf b), .string (sOf b), .slice Ma (nL b) Mc, .slice Na (nK b) Nc] 25)) w2) := b2.mono (by simp)
  obtain ⟨⟨q0, q1, q2, q3, q4⟩, ⟨r0, r1, r2, r3, r4⟩, hz, hbw⟩ := box2_facts HB2.out
  have Hbw := hid hbw
  clear b2 hbw
  cases hi : isV a with
  | false =>
    have Hi := hid hi
    clear hi
    go_wp2_with fail
    go_ret2
    exact ⟨by rw [Hi.out]; rfl, Hbw.out⟩
  | true =>
    have Hi := hid hi
    clear hi
    go_wp2_with fail
    refine (isValue_any hV hL g _ b _ (HA'.out.keep Hbw.out) (hL w HT.out _ _ HT.out Hbw.out)).mono ?_
    rintro e w3 ⟨rfl, b3⟩
    have HB3 : Hid (Below (w.heap.size + 2) ((w.alloc (.cells #[.int .i64 (kindOf a), .int .i64 (nOf a), .string (sOf a), .slice La (nL a) Lc, .slice Ka (nK a) Kc] 25)).alloc (.cells #[.int .i64 (kindOf b), .int .i64 (nOf b), .string (sOf b), .slice Ma (nL b) Mc, .slice Na (nK b) Nc] 25)) w3) := HB2.out.trans (b3.mono (by omega))
    clear q0 q1 q2 q3 q4 r0 r1 r2 r3 r4 hz b3 Hbw HB2
    obtain ⟨⟨q0, q1, q2, q3, q4⟩, ⟨r0, r1, r2, r3, r4⟩, hz, hbw⟩ := box2_facts HB3.out
    have Hbw := hid hbw
    clear hbw
    cases hj : isV b with
    | false =>
      have Hj := hid hj
      clear hj
      go_wp2_with fail
      go_ret2
      exact ⟨by rw [Hi.out, Hj.out]; rfl, Hbw.out⟩
    | true =>
      have Hj := hid hj
      clear hj
      go_wp2_with fail
      refine (compare_any f g _ _ a b _ (HA.out.keep Hbw.out) (HA'.out.keep Hbw.out) (good_okK f 12 a ((isV_iff a).1 Hi.out).1) (good_okK f 12 b ((isV_iff b).1 Hj.out).1)).mono ?_
      rintro e w4 ⟨rfl, b4⟩
      have HB4 : Hid (Below w.heap.size w w4) := Hbw.out.trans (b4.mono (by omega))
      clear b4
      go_wp2_with fail
      go_ret2
      exact ⟨by rw [Hi.out, Hj.out]; rfl, HB4.out⟩
end Go.Proofs.YtknakfpciccoaaaGreatDoor
/- The walk of the program's Decode, in one form. -/
namespace Go.Proofs.YtknakfpciccoaaaGreatDoor
open Go.RowKit

def tD (s : ByteArray) : T := (resT s).getD (leafT 0 0 ByteArray.empty)
def eD (s : ByteArray) : Int := if (resT s).isSome then 0 else 6
def DecU (s : ByteArray) (w : World) (e : Ending) (w' : World) : Prop :=
  Below w.heap.size w w' ∧ ∃ es A B C D, e = .returned (.tuple #[.agg #[.int .i64 (kindOf (tD s)), .int .i64 (nOf (tD s)), .string (sOf (tD s)), .slice A (nL (tD s)) B, .slice C (nK (tD s)) D], .int .i64 (eD s)]) ∧
    Flat w' 13 (.agg #[.int .i64 (kindOf (tD s)), .int .i64 (nOf (tD s)), .string (sOf (tD s)), .slice A (nL (tD s)) B, .slice C (nK (tD s)) D]) (tD s) es ∧ Sep w.heap.size w' es ∧ es.length ≤ 1048576 ∧ ∀ x ∈ es, x.n ≤ 1048576 ∧ x.m ≤ 1048576
theorem decode_u {Tb : World → Prop} (hV : ValidSaid Tb) (hL : Lies Tb) (s : ByteArray) (w : World) (hs : s.size ≤ 140737488355328) (hT : Tb w) : Calls Tryz.prog 24 #[.string s] w (DecU s w) := by
  refine (decode_any hV hL s w hs hT).mono ?_
  rintro e w' ⟨hb, ⟨t, es, A, B, C, D, hr, rfl, hF, hS⟩ | ⟨hr, rfl⟩⟩
  · have hg := resT_good hr
    have hc := flat_count hF hg.1
    have e1 : tD s = t := by unfold tD; rw [hr]; rfl
    have e2 : eD s = 0 := by unfold eD; rw [hr]; rfl
    refine ⟨hb, es, A, B, C, D, ?_, ?_, hS, by omega, fun x hx => ?_⟩
    · rw [e1, e2]; rfl
    · rw [e1]; exact hF
    · have := hc.2 x hx; omega
  · have e1 : tD s = leafT 0 0 ByteArray.empty := by unfold tD; rw [hr]; rfl
    have e2 : eD s = 6 := by unfold eD; rw [hr]; rfl
    refine ⟨hb, _, none, 0, none, 0, ?_, ?_, sep_leaf _ _, by simp, fun x hx => ?_⟩
    · rw [e1, e2]; rfl
    · rw [e1]; exact flat_leaf w' 12 0 0 ByteArray.empty (by omega) (by omega) (by omega) (by omega) (by simp)
    · simp only [List.mem_singleton] at hx
      subst hx
      exact ⟨Nat.zero_le _, Nat.zero_le _⟩
end Go.Proofs.YtknakfpciccoaaaGreatDoor
/- The texts of values that are made out of raw numbers: which they are, and how they are ordered. -/
namespace Go.Proofs.YtknakfpciccoaaaGreatDoor
open Go.RowKit

/-- The texts, from the least one on. -/
def vtL : List (List UInt8) :=
  [[110, 117, 108, 108], [102, 97, 108, 115, 101], [116, 114, 117, 101],
   [45, 52], [45, 51], [45, 50], [45, 49], [48], [49], [50], [51], [52],
   [34, 97, 34], [34, 98, 34], [34, 99, 34], [91, 93],
   [91, 48, 44, 48, 93], [91, 48, 44, 49, 93], [91, 48, 44, 50, 93], [91, 48, 44, 51, 93], [91, 49, 44, 48, 93], [91, 49, 44, 49, 93], [91, 49, 44, 50, 93], [91, 49, 44, 51, 93],
   [91, 50, 44, 48, 93], [91, 50, 44, 49, 93], [91, 50, 44, 50, 93], [91, 50, 44, 51, 93], [91, 51, 44, 48, 93], [91, 51, 44, 49, 93], [91, 51, 44, 50, 93], [91, 51, 44, 51, 93],
   [123, 34, 98, 34, 58, 48, 125], [123, 34, 98, 34, 58, 49, 125], [123, 34, 98, 34, 58, 50, 125], [123, 34, 98, 34, 58, 51, 125]]
def vt (i : Nat) : ByteArray := baL (vtL.getD i [])
def nT (n : Int) : T := leafT 3 n ByteArray.empty
def l2T (a b : Int) : T := mkT 5 0 ByteArray.empty [nT a, nT b] []
def obT (a : Int) : T := mkT 6 0 ByteArray.empty [nT a] [⟨#[98]⟩]
/-- What they read as. -/
def tvL : List T :=
  [leafT 1 0 ByteArray.empty, leafT 2 0 ByteArray.empty, leafT 2 1 ByteArray.empty,
   nT (-4), nT (-3), nT (-2), nT (-1), nT 0, nT 1, nT 2, nT 3, nT 4,
   leafT 4 0 ⟨#[97]⟩, leafT 4 0 ⟨#[98]⟩, leafT 4 0 ⟨#[99]⟩, mkT 5 0 ByteArray.empty [] [],
   l2T 0 0, l2T 0 1, l2T 0 2, l2T 0 3, l2T 1 0, l2T 1 1, l2T 1 2, l2T 1 3, l2T 2 0, l2T 2 1, l2T 2 2, l2T 2 3, l2T 3 0, l2T 3 1, l2T 3 2, l2T 3 3,
   obT 0, obT 1, obT 2, obT 3]
def tv (i : Nat) : T := tvL.getD i (leafT 0 0 ByteArray.empty)
set_option maxRecDepth 100000 in
theorem vt_all : (List.range 36).map (fun i => (tJ (vt i), eJ (vt i))) = (List.range 36).map (fun i => (tv i, (0 : Int))) := by kernel_rfl
theorem vt_at {i : Nat} (h : i < 36) : tJ (vt i) = tv i ∧ eJ (vt i) = 0 := by
  have := congrArg (fun l => l[i]?) vt_all
  simp only [List.getElem?_map, List.getElem?_range h, Option.map_some, Option.some.injEq, Prod.mk.injEq] at this
  exact this
set_option maxRecDepth 100000 in
theorem vt_size : ((List.range 36).all fun i => decide ((vt i).size ≤ 10)) = true := by kernel_rfl
theorem vt_le {i : Nat} (h : i < 36) : (vt i).size ≤ 10 := of_decide_eq_true (List.all_eq_true.1 vt_size i (List.mem_range.2 h))
set_option maxRecDepth 100000 in
theorem tv_isV : ((List.range 36).all fun i => (chkT 12 (tv i) 1048576).isSome) = true := by kernel_rfl
theorem tv_ok {i : Nat} (h : i < 36) : isV (tv i) = true := List.all_eq_true.1 tv_isV i (List.mem_range.2 h)
set_option maxRecDepth 100000 in
theorem tv_cmp : ((List.range 36).all fun i => (List.range 36).all fun j => decide (cmpT 13 (tv i) (tv j) = cmpI i j)) = true := by kernel_rfl
theorem tv_ord {i j : Nat} (hi : i < 36) (hj : j < 36) : cmpT 13 (tv i) (tv j) = cmpI i j :=
  of_decide_eq_true (List.all_eq_true.1 (List.all_eq_true.1 tv_cmp i (List.mem_range.2 hi)) j (List.mem_range.2 hj))
/-- A text is one of these. -/
def IsV (s : ByteArray) : Prop := ∃ i, i < 36 ∧ s = vt i
theorem digit1 (n : Nat) (h : n < 10) : Lib.decDigits n = [(n + 48).toUInt8] := by
  rw [Lib.decDigits.eq_def, dif_pos h]
  first | rfl | (simp [Nat.add_comm])
theorem itoa_pos (n : Nat) (h : n < 10) : Lib.itoa (n : Int) = [(n + 48).toUInt8] := by
  unfold Lib.itoa
  rw [if_neg (by omega), Int.toNat_natCast, digit1 n h]
theorem itoa_neg (n : Nat) (h0 : 0 < n) (h : n < 10) : Lib.itoa (-(n : Int)) = [45, (n + 48).toUInt8] := by
  unfold Lib.itoa
  rw [if_pos (by omega), Int.natAbs_neg, Int.natAbs_natCast, digit1 n h]
theorem isV_num (d : Int) : IsV (baL (Lib.itoa (d % 9 - 4))) := by
  have h : d % 9 = 0 ∨ d % 9 = 1 ∨ d % 9 = 2 ∨ d % 9 = 3 ∨ d % 9 = 4 ∨ d % 9 = 5 ∨ d % 9 = 6 ∨ d % 9 = 7 ∨ d % 9 = 8 := by omega
  rcases h with h | h | h | h | h | h | h | h | h <;> rw [h]
  · exact ⟨3, by omega, by show baL (Lib.itoa (-((4 : Nat) : Int))) = _; rw [itoa_neg 4 (by omega) (by omega)]; rfl⟩
  · exact ⟨4, by omega, by show baL (Lib.itoa (-((3 : Nat) : Int))) = _; rw [itoa_neg 3 (by omega) (by omega)]; rfl⟩
  · exact ⟨5, by omega, by show baL (Lib.itoa (-((2 : Nat) : Int))) = _; rw [itoa_neg 2 (by omega) (by omega)]; rfl⟩
  · exact ⟨6, by omega, by show baL (Lib.itoa (-((1 : Nat) : Int))) = _; rw [itoa_neg 1 (by omega) (by omega)]; rfl⟩
  · exact ⟨7, by omega, by show baL (Lib.itoa ((0 : Nat) : Int)) = _; rw [itoa_pos 0 (by omega)]; rfl⟩
  · exact ⟨8, by omega, by show baL (Lib.itoa ((1 : Nat) : Int)) = _; rw [itoa_pos 1 (by omega)]; rfl⟩
  · exact ⟨9, by omega, by show baL (Lib.itoa ((2 : Nat) : Int)) = _; rw [itoa_pos 2 (by omega)]; rfl⟩
  · exact ⟨10, by omega, by show baL (Lib.itoa ((3 : Nat) : Int)) = _; rw [itoa_pos 3 (by omega)]; rfl⟩
  · exact ⟨11, by omega, by show baL (Lib.itoa ((4 : Nat) : Int)) = _; rw [itoa_pos 4 (by omega)]; rfl⟩
end Go.Proofs.YtknakfpciccoaaaGreatDoor
/- One byte as a text. -/
namespace Go.Proofs.YtknakfpciccoaaaGreatDoor
open Go.RowKit

def byteZ (a : Int) : UInt8 := a.toNat.toUInt8
theorem byteZ_nat {a : Int} (h0 : 0 ≤ a) (h1 : a < 256) : ((byteZ a).toNat : Int) = a := by
  unfold byteZ
  rw [Nat.toUInt8, UInt8.toNat_ofNat']
  omega
theorem conv1 (w : World) (a : Int) (ha : 0 ≤ a ∧ a < 256) : (convert 63 9 (.slice (some ⟨w.heap.size, 0, none⟩) 1 1)).run Tryz.prog (w.alloc (.cells #[.int .u8 a] 5)) = .ok (.string ⟨#[byteZ a]⟩) (w.alloc (.cells #[.int .u8 a] 5)) := by
  refine run_convert_bytes_back (P := Tryz.prog) (w.alloc (.cells #[.int .u8 a] 5)) 63 9 5 ⟨w.heap.size, 0, none⟩ 1 [byteZ a] Tryz.underlying63 Tryz.underlying5 Tryz.underlying9 (fun j hj => ?_)
  have hx := byteZ_nat ha.1 ha.2
  match j, hj with
  | 0, _ => simp [go_sem, Addr.add, hx]
end Go.Proofs.YtknakfpciccoaaaGreatDoor
/- The contract of strconv.Itoa, of the library's shelf, laid at this dump. -/
namespace Go.Proofs
open Go.Shelf
def Tryz.laysItoa_ren : Go.Shelf.Ren := ⟨fun | 171 => 54 | 243 => 98 | 246 => 127 | 283 => 162 | 284 => 163 | 285 => 164 | 286 => 165 | 129 => 196 | 317 => 195 | 318 => 197 | 319 => 198 | 320 => 199 | 337 => 240 | 338 => 241 | n => n, fun | 3 => 3 | 9 => 9 | 2 => 2 | 4 => 4 | 171 => 187 | 0 => 0 | 53 => 127 | 37 => 63 | 5 => 5 | 173 => 190 | 212 => 215 | 51 => 216 | 20 => 20 | 213 => 217 | 46 => 155 | 232 => 301 | 233 => 302 | n => n, fun | 17 => 2 | 18 => 3 | 19 => 4 | n => n⟩
theorem Tryz.laysItoa : Go.Proofs.LaysM.n171 Tryz.prog Tryz.laysItoa_ren := {
  mixed := by kernel_rfl
  f129 := Tryz.func196.trans (congrArg some (by kernel_rfl))
  f171 := Tryz.func54.trans (congrArg some (by kernel_rfl))
  f243 := Tryz.func98.trans (congrArg some (by kernel_rfl))
  f246 := Tryz.func127.trans (congrArg some (by kernel_rfl))
  f283 := Tryz.func162.trans (congrArg some (by kernel_rfl))
  f284 := Tryz.func163.trans (congrArg some (by kernel_rfl))
  f285 := Tryz.func164.trans (congrArg some (by kernel_rfl))
  f286 := Tryz.func165.trans (congrArg some (by kernel_rfl))
  f317 := Tryz.func195.trans (congrArg some (by kernel_rfl))
  f318 := Tryz.func197.trans (congrArg some (by kernel_rfl))
  f319 := Tryz.func198.trans (congrArg some (by kernel_rfl))
  f320 := Tryz.func199.trans (congrArg some (by kernel_rfl))
  f337 := Tryz.func240.trans (congrArg some (by kernel_rfl))
  f338 := Tryz.func241.trans (congrArg some (by kernel_rfl))
  t0 := Tryz.underlying0
  a0 := Tryz.isAgg0
  z0 := Tryz.sizeOf0
  v0 := Tryz.zeroValue0
  t2 := Tryz.underlying2
  a2 := Tryz.isAgg2
  z2 := Tryz.sizeOf2
  v2 := Tryz.zeroValue2
  t3 := Tryz.underlying3
  a3 := Tryz.isAgg3
  z3 := Tryz.sizeOf3
  v3 := Tryz.zeroValue3
  t4 := Tryz.underlying4
  a4 := Tryz.isAgg4
  z4 := Tryz.sizeOf4
  v4 := Tryz.zeroValue4
  t5 := Tryz.underlying5
  a5 := Tryz.isAgg5
  z5 := Tryz.sizeOf5
  v5 := Tryz.zeroValue5
  t9 := Tryz.underlying9
  a9 := Tryz.isAgg9
  z9 := Tryz.sizeOf9
  v9 := Tryz.zeroValue9
  t20 := Tryz.underlying20
  a20 := Tryz.isAgg20
  z20 := Tryz.sizeOf20
  v20 := Tryz.zeroValue20
  t37 := Tryz.underlying63
  a37 := Tryz.isAgg63
  z37 := Tryz.sizeOf63
  v37 := Tryz.zeroValue63
  t46 := Tryz.underlying155
  a46 := Tryz.isAgg155
  z46 := Tryz.sizeOf155
  v46 := Tryz.zeroValue155
  t51 := Tryz.underlying216
  a51 := Tryz.isAgg216
  z51 := Tryz.sizeOf216
  v51 := Tryz.zeroValue216
  t53 := Tryz.underlying127
  a53 := Tryz.isAgg127
  z53 := Tryz.sizeOf127
  v53 := Tryz.zeroValue127
  t171 := Tryz.underlying187
  a171 := Tryz.isAgg187
  z171 := Tryz.sizeOf187
  v171 := Tryz.zeroValue187
  t173 := Tryz.underlying190
  a173 := Tryz.isAgg190
  z173 := Tryz.sizeOf190
  v173 := Tryz.zeroValue190
  t212 := Tryz.underlying215
  a212 := Tryz.isAgg215
  z212 := Tryz.sizeOf215
  v212 := Tryz.zeroValue215
  t213 := Tryz.underlying217
  a213 := Tryz.isAgg217
  z213 := Tryz.sizeOf217
  t232 := Tryz.underlying301
  a232 := Tryz.isAgg301
  z232 := Tryz.sizeOf301
  v232 := Tryz.zeroValue301
  t233 := Tryz.underlying302
  a233 := Tryz.isAgg302
  z233 := Tryz.sizeOf302
  v233 := Tryz.zeroValue302
  g17 := by kernel_rfl
  g18 := by kernel_rfl
  g19 := by kernel_rfl
  i0 := by kernel_rfl
  i2 := by kernel_rfl
  i3 := by kernel_rfl
  i4 := by kernel_rfl
  i5 := by kernel_rfl
  i9 := by kernel_rfl
  i20 := by kernel_rfl
  i37 := by kernel_rfl
  i46 := by kernel_rfl
  i51 := by kernel_rfl
  i53 := by kernel_rfl
  i171 := by kernel_rfl
  i173 := by kernel_rfl
  i212 := by kernel_rfl
  i232 := by kernel_rfl
  i233 := by kernel_rfl
  m17 := by kernel_rfl
  m18 := by kernel_rfl
  m19 := by kernel_rfl }
end Go.Proofs
/- The walks of pick and value. -/
namespace Go.Proofs.YtknakfpciccoaaaGreatDoor
open Go.RowKit

def ItoaSaid (Tb : World → Prop) : Prop := ∀ (n : Int) (w : World), -9223372036854775808 ≤ n → n ≤ 9223372036854775807 → Tb w → Calls Tryz.prog 54 #[.int .i64 n] w fun e w' => e = .returned (.string (baL (Lib.itoa n))) ∧ Below w.heap.size w w'
def absZ (c : Int) : Int := if c < 0 then -(c + 1) else c
theorem absZ_bd {c : Int} (h0 : -9223372036854775808 ≤ c) (h1 : c ≤ 9223372036854775807) : 0 ≤ absZ c ∧ absZ c ≤ 9223372036854775807 := by unfold absZ; split <;> omega
set_option maxHeartbeats 4000000 in
set_option maxRecDepth 100000 in
theorem pick_any (c n : Int) (w : World) (h0 : -9223372036854775808 ≤ c) (h1 : c ≤ 9223372036854775807) (hn : 0 < n) (hn2 : n ≤ 1099511627776) :
    Calls Tryz.prog 53 #[.int .i64 c, .int .i64 n] w fun e w' => e = .returned (.int .i64 (absZ c % n)) ∧ w' = w := by
  have hz : (n == 0) = false := by rw [beq_eq_false_iff_ne]; omega
  have hz2 : n ≠ 0 := by omega
  by_cases hc : c < 0
  · have HX : Hid (absZ c = -(c + 1)) := by show _ = _; unfold absZ; rw [if_pos hc]
    have hx : 0 ≤ -(c + 1) := by omega
    go_enter Tryz.func53, Tryz.ntmps53
    go_wp2_with fail
    go_ret
    exact ⟨ret_int (by rw [HX.out, ← Int.neg_tmod, Int.tmod_eq_emod_of_nonneg hx]), rfl⟩
  · have HX : Hid (absZ c = c) := by show _ = _; unfold absZ; rw [if_neg hc]
    have hx : 0 ≤ c := by omega
    go_enter Tryz.func53, Tryz.ntmps53
    go_wp2_with fail
    go_ret
    exact ⟨ret_int (by rw [HX.out]), rfl⟩
theorem itoa_small {n : Int} (h0 : 0 ≤ n) (h1 : n < 4) : ∃ k : Nat, k < 4 ∧ (k : Int) = n ∧ Lib.itoa n = [(k + 48).toUInt8] := by
  refine ⟨n.toNat, by omega, by omega, ?_⟩
  have := itoa_pos n.toNat (by omega)
  rw [Int.toNat_of_nonneg h0] at this
  exact this
theorem isV_list {x y : Int} (hx : 0 ≤ x) (hx4 : x < 4) (hy : 0 ≤ y) (hy4 : y < 4) : IsV ((((⟨#[91]⟩ ++ baL (Lib.itoa x)) ++ ⟨#[44]⟩) ++ baL (Lib.itoa y)) ++ ⟨#[93]⟩) := by
  obtain ⟨a, ha, _, ea⟩ := itoa_small hx hx4
  obtain ⟨b, hb, _, eb⟩ := itoa_small hy hy4
  rw [ea, eb]
  refine ⟨16 + 4 * a + b, by omega, ?_⟩
  obtain rfl | rfl | rfl | rfl : a = 0 ∨ a = 1 ∨ a = 2 ∨ a = 3 := by omega
  all_goals
    obtain rfl | rfl | rfl | rfl : b = 0 ∨ b = 1 ∨ b = 2 ∨ b = 3 := by omega
    all_goals kernel_rfl
theorem isV_obj {x : Int} (hx : 0 ≤ x) (hx4 : x < 4) : IsV ((⟨#[123, 34, 98, 34, 58]⟩ ++ baL (Lib.itoa x)) ++ ⟨#[125]⟩) := by
  obtain ⟨a, ha, _, ea⟩ := itoa_small hx hx4
  rw [ea]
  refine ⟨32 + a, by omega, ?_⟩
  obtain rfl | rfl | rfl | rfl : a = 0 ∨ a = 1 ∨ a = 2 ∨ a = 3 := by omega
  all_goals kernel_rfl
theorem isV_txt {x : Int} (hx : 0 ≤ x) (hx3 : x < 3) : IsV ((⟨#[34]⟩ ++ ⟨#[byteZ (97 + x)]⟩) ++ ⟨#[34]⟩) := by
  obtain rfl | rfl | rfl : x = 0 ∨ x = 1 ∨ x = 2 := by omega
  · exact ⟨12, by omega, by kernel_rfl⟩
  · exact ⟨13, by omega, by kernel_rfl⟩
  · exact ⟨14, by omega, by kernel_rfl⟩
/-- Two texts, one behind the other. -/
theorem cat_run (a b : ByteArray) (n m : Nat) (ha : a.size = n) (hb : b.size = m) (h : n + m ≤ 1000000) : ∃ c : ByteArray, c = a ++ b ∧ c.size = n + m ∧ ∀ w : World, (Op.stringOp .add a b).run Tryz.prog w = .ok (.string c) w :=
  ⟨a ++ b, rfl, by rw [ByteArray.size_append]; omega, fun w => run_string_add_sum w a b (by omega)⟩
theorem itoa_size {n : Int} (h0 : 0 ≤ n) (h1 : n < 4) : (baL (Lib.itoa n)).size = 1 := by
  obtain ⟨k, _, _, e⟩ := itoa_small h0 h1
  rw [e]
  rfl
def ValPostV (w : World) (e : Ending) (w' : World) : Prop := ∃ s, IsV s ∧ e = .returned (.string s) ∧ Below w.heap.size w w'
set_option maxHeartbeats 8000000 in
set_option maxRecDepth 100000 in
theorem value_any' {Tb : World → Prop} (hI : ItoaSaid Tb) (hL : Lies Tb) (c : Int) (w : World) (h0 : -9223372036854775808 ≤ c) (h1 : c ≤ 9223372036854775807) (hT : Tb w) :
    Calls Tryz.prog 21 #[.int .i64 c] w (ValPostV w) := by
  have HP1 := hid (pick_any c 1099511627776 w h0 h1 (by omega) (by omega))
  have HP2 := hid (pick_any c 8 w h0 h1 (by omega) (by omega))
  have hb := absZ_bd h0 h1
  obtain ⟨P, hP⟩ : ∃ P, absZ c % 1099511627776 = P := ⟨_, rfl⟩
  obtain ⟨k, hk⟩ : ∃ k, absZ c % 8 = k := ⟨_, rfl⟩
  have p0 : 0 ≤ P := by omega
  have p1 : P ≤ 1099511627776 := by omega
  have k8 : k = 0 ∨ k = 1 ∨ k = 2 ∨ k = 3 ∨ k = 4 ∨ k = 5 ∨ k = 6 ∨ k = 7 := by omega
  rw [hP] at HP1
  rw [hk] at HP2
  clear hP hk hb h0 h1
  have HT := hid hT
  have HI := hid hI
  clear hT hI
  rcases k8 with rfl | rfl | rfl | rfl | rfl | rfl | rfl | rfl
  · go_enter Tryz.func21, Tryz.ntmps21
    go_wp2_with fail
    refine HP1.out.mono ?_
    rintro e w ⟨rfl, rfl⟩
    go_wp2_with fail
    refine HP2.out.mono ?_
    rintro e w ⟨rfl, rfl⟩
    have HC := hid (HI.out (P / 8 % 9 - 4) w (by omega) (by omega) HT.out)
    go_wp2_with fail
    refine HC.out.mono ?_
    rintro e w1 ⟨rfl, b1⟩
    have HB := hid b1
    clear b1
    go_wp2_with fail
    go_ret
    exact ⟨_, isV_num (P / 8), rfl, HB.out⟩
  · go_enter Tryz.func21, Tryz.ntmps21
    go_wp2_with fail
    refine HP1.out.mono ?_
    rintro e w ⟨rfl, rfl⟩
    go_wp2_with fail
    refine HP2.out.mono ?_
    rintro e w ⟨rfl, rfl⟩
    have HC := hid (HI.out (P / 8 % 9 - 4) w (by omega) (by omega) HT.out)
    go_wp2_with fail
    refine HC.out.mono ?_
    rintro e w1 ⟨rfl, b1⟩
    have HB := hid b1
    clear b1
    go_wp2_with fail
    go_ret
    exact ⟨_, isV_num (P / 8), rfl, HB.out⟩
  · go_enter Tryz.func21, Tryz.ntmps21
    go_wp2_with fail
    refine HP1.out.mono ?_
    rintro e w ⟨rfl, rfl⟩
    go_wp2_with fail
    refine HP2.out.mono ?_
    rintro e w ⟨rfl, rfl⟩
    have HC := hid (HI.out (P / 8 % 9 - 4) w (by omega) (by omega) HT.out)
    go_wp2_with fail
    refine HC.out.mono ?_
    rintro e w1 ⟨rfl, b1⟩
    have HB := hid b1
    clear b1
    go_wp2_with fail
    go_ret
    exact ⟨_, isV_num (P / 8), rfl, HB.out⟩
  · have hcv := conv1 w (97 + P / 8 % 3) (by omega)
    have e1 : IntKind.u8.wrap (97 + P / 8 % 3) = 97 + P / 8 % 3 := by rw [IntKind.wrap_u8]; omega
    go_enter Tryz.func21, Tryz.ntmps21
    go_wp2_with fail
    refine HP1.out.mono ?_
    rintro e w ⟨rfl, rfl⟩
    go_wp2_with fail
    refine HP2.out.mono ?_
    rintro e w ⟨rfl, rfl⟩
    go_wp2_with fail
    go_ret
    exact ⟨_, isV_txt (x := P / 8 % 3) (by omega) (by omega), rfl, (Below.refl _ _).alloc (Nat.le_refl _) _⟩
  · go_enter Tryz.func21, Tryz.ntmps21
    go_wp2_with fail
    refine HP1.out.mono ?_
    rintro e w ⟨rfl, rfl⟩
    go_wp2_with fail
    refine HP2.out.mono ?_
    rintro e w ⟨rfl, rfl⟩
    have HC := hid (HI.out (P / 8 % 4) w (by omega) (by omega) HT.out)
    have HV := hid (isV_list (x := P / 8 % 4) (y := P / 8 / 4 % 4) (by omega) (by omega) (by omega) (by omega))
    have z1 := itoa_size (n := P / 8 % 4) (by omega) (by omega)
    have z2 := itoa_size (n := P / 8 / 4 % 4) (by omega) (by omega)
    have HC2 := hid (fun w1 b1 => HI.out (P / 8 / 4 % 4) w1 (by omega) (by omega) (hL w HT.out w w1 HT.out b1))
    generalize baL (Lib.itoa (P / 8 % 4)) = s1 at HC HV z1
    generalize baL (Lib.itoa (P / 8 / 4 % 4)) = s2 at HC2 HV z2
    obtain ⟨a1, e1, y1, g1⟩ := cat_run ⟨#[91]⟩ s1 1 1 rfl z1 (by omega)
    obtain ⟨a2, e2, y2, g2⟩ := cat_run a1 ⟨#[44]⟩ 2 1 y1 rfl (by omega)
    obtain ⟨a3, e3, y3, g3⟩ := cat_run a2 s2 3 1 y2 z2 (by omega)
    obtain ⟨a4, e4, y4, g4⟩ := cat_run a3 ⟨#[93]⟩ 4 1 y3 rfl (by omega)
    rw [← e1, ← e2, ← e3, ← e4] at HV
    clear e1 e2 e3 e4 y1 y2 y3 y4 z1 z2
    go_wp2_with fail
    refine HC.out.mono ?_
    rintro e w1 ⟨rfl, b1⟩
    have HB := hid b1
    have HC3 := hid (HC2.out w1 b1)
    clear b1
    go_wp2_with fail
    refine HC3.out.mono ?_
    rintro e w2 ⟨rfl, b2⟩
    have HB2 := hid (HB.out.trans (b2.mono HB.out.size))
    clear b2
    go_wp2_with fail
    go_ret
    exact ⟨_, HV.out, rfl, HB2.out⟩
  · go_enter Tryz.func21, Tryz.ntmps21
    go_wp2_with fail
    refine HP1.out.mono ?_
    rintro e w ⟨rfl, rfl⟩
    go_wp2_with fail
    refine HP2.out.mono ?_
    rintro e w ⟨rfl, rfl⟩
    have HC := hid (HI.out (P / 8 % 4) w (by omega) (by omega) HT.out)
    have HV := hid (isV_obj (x := P / 8 % 4) (by omega) (by omega))
    have z1 := itoa_size (n := P / 8 % 4) (by omega) (by omega)
    generalize baL (Lib.itoa (P / 8 % 4)) = s1 at HC HV z1
    obtain ⟨a1, e1, y1, g1⟩ := cat_run ⟨#[123, 34, 98, 34, 58]⟩ s1 5 1 rfl z1 (by omega)
    obtain ⟨a2, e2, y2, g2⟩ := cat_run a1 ⟨#[125]⟩ 6 1 y1 rfl (by omega)
    rw [← e1, ← e2] at HV
    clear e1 e2 y1 y2 z1
    go_wp2_with fail
    refine HC.out.mono ?_
    rintro e w1 ⟨rfl, b1⟩
    have HB := hid b1
    clear b1
    go_wp2_with fail
    go_ret
    exact ⟨_, HV.out, rfl, HB.out⟩
  · obtain ⟨m, hm⟩ : ∃ m, P / 8 % 3 = m := ⟨_, rfl⟩
    obtain h | h | h : m = 0 ∨ m = 1 ∨ m = 2 := by omega
    all_goals
      subst h
      go_enter Tryz.func21, Tryz.ntmps21
      go_wp2_with fail
      refine HP1.out.mono ?_
      rintro e w ⟨rfl, rfl⟩
      go_wp2_with fail
      refine HP2.out.mono ?_
      rintro e w ⟨rfl, rfl⟩
      go_wp2_with fail
      go_ret
    · exact ⟨_, ⟨0, by omega, rfl⟩, rfl, (Below.refl _ _).alloc (Nat.le_refl _) _⟩
    · exact ⟨_, ⟨2, by omega, rfl⟩, rfl, (Below.refl _ _).alloc (Nat.le_refl _) _⟩
    · exact ⟨_, ⟨1, by omega, rfl⟩, rfl, (Below.refl _ _).alloc (Nat.le_refl _) _⟩
  · go_enter Tryz.func21, Tryz.ntmps21
    go_wp2_with fail
    refine HP1.out.mono ?_
    rintro e w ⟨rfl, rfl⟩
    go_wp2_with fail
    refine HP2.out.mono ?_
    rintro e w ⟨rfl, rfl⟩
    go_wp2_with fail
    go_ret
    exact ⟨_, ⟨15, by omega, rfl⟩, rfl, Below.refl _ _⟩
end Go.Proofs.YtknakfpciccoaaaGreatDoor
/- parsed answers true: the seat's own copy of the part of X1 that needs no reference. -/
namespace Go.Proofs.YtknakfpciccoaaaGreatDoor
open Go.RowKit

def PrsU (s : ByteArray) (w : World) (e : Ending) (w' : World) : Prop :=
  Below w.heap.size w w' ∧ ∃ es A B C D, e = .returned (.tuple #[.agg #[.int .i64 (kindOf (tJ s)), .int .i64 (nOf (tJ s)), .string (sOf (tJ s)), .slice A (nL (tJ s)) B, .slice C (nK (tJ s)) D], .int .i64 (eJ s)]) ∧
    Flat w' 13 (.agg #[.int .i64 (kindOf (tJ s)), .int .i64 (nOf (tJ s)), .string (sOf (tJ s)), .slice A (nL (tJ s)) B, .slice C (nK (tJ s)) D]) (tJ s) es ∧ Sep w.heap.size w' es ∧ es.length ≤ 1048576 ∧ ∀ x ∈ es, x.n ≤ 1048576 ∧ x.m ≤ 1048576
theorem prs_u {s : ByteArray} {w : World} {e : Ending} {w' : World} (h : ParsePost s w e w') : PrsU s w e w' := by
  obtain ⟨hb, ⟨t, es, A, B, C, D, ⟨h0, rfl⟩, rfl, hF, hS⟩ | ⟨h0, rfl⟩⟩ := h
  · have hc := tJ_cnt h0 13
    have hf := flat_cnt hF hc.2
    refine ⟨hb, es, A, B, C, D, by rw [h0]; rfl, hF, hS, by omega, fun x hx => ?_⟩
    have := hf.2 x hx
    omega
  · have e1 : tJ s = leafT 0 0 ByteArray.empty := by unfold tJ; rw [if_neg h0]
    refine ⟨hb, _, none, 0, none, 0, ?_, ?_, sep_leaf _ _, by simp, fun x hx => ?_⟩
    · rw [e1]; rfl
    · rw [e1]; exact flat_leaf w' 12 0 0 ByteArray.empty (by omega) (by omega) (by omega) (by omega) (by simp)
    · simp only [List.mem_singleton] at hx
      subst hx
      exact ⟨Nat.zero_le _, Nat.zero_le _⟩
theorem parse_u {Tb : World → Prop} (hD : DecSaid Tb) (hN : IntSaid Tb) (hL : Lies Tb) (s : ByteArray) (w : World) (hs : s.size ≤ 140737488355328) (hT : Tb w) : Calls Tryz.prog 22 #[.string s] w (PrsU s w) :=
  (parse_any hD hN hL s w hs hT).mono fun _ _ h => prs_u h
/-- The text that is tried first. -/
def sLive : ByteArray := ⟨#[32, 91, 32, 116, 114, 117, 101, 32, 93, 32]⟩
theorem live_t : tJ sLive = mkT 5 0 ByteArray.empty [leafT 2 1 ByteArray.empty] [] := by kernel_rfl
theorem live_e : eJ sLive = 0 := by kernel_rfl
theorem parse_live {Tb : World → Prop} (hD : DecSaid Tb) (hN : IntSaid Tb) (hL : Lies Tb) (w : World) (hT : Tb w) : Calls Tryz.prog 22 #[.string sLive] w fun e w' =>
    Below w.heap.size w w' ∧ ∃ b o B C D, e = .returned (.tuple #[.agg #[.int .i64 5, .int .i64 0, .string ⟨#[]⟩, .slice (some ⟨b, o, none⟩) 1 B, .slice C 0 D], .int .i64 0]) ∧ b < w'.heap.size ∧ w'.cell? ⟨b, o, none⟩ = some (.int .i64 2) ∧ w'.cell? ⟨b, o + 1, none⟩ = some (.int .i64 1) := by
  refine (parse_u hD hN hL _ w (by show (10 : Nat) ≤ _; omega) hT).mono ?_
  rintro e w' ⟨hb, es, A, B, C, D, rfl, hF, _⟩
  rw [live_t] at hF
  obtain ⟨g, La, Ka, Lc, Kc, _, hv, _, hl, _⟩ := hF.at.open
  obtain ⟨b, o, c0, c1, c2, c3, c4, hA, hlt, q0, q1, q2, q3, q4, ha⟩ := hl.out 0 (by show (0 : Nat) < 1; omega)
  obtain ⟨g', La', Ka', Lc', Kc', _, hv', _⟩ := ha.out.open
  simp only [Value.agg.injEq, Array.mk.injEq, List.cons.injEq] at hv'
  have e0 : c0 = .int .i64 2 := hv'.1
  have e1 : c1 = .int .i64 1 := hv'.2.1
  subst e0
  subst e1
  have eA : A = La := by
    simp only [Value.agg.injEq, Array.mk.injEq, List.cons.injEq, Value.slice.injEq] at hv
    exact hv.2.2.2.1.1
  subst eA
  subst hA
  refine ⟨hb, b, o, B, C, D, ?_, hlt, by simpa using q0, by simpa using q1⟩
  rw [live_t, live_e]
  rfl
set_option maxHeartbeats 4000000 in
set_option maxRecDepth 100000 in
theorem parsed_any {Tb : World → Prop} (hD : DecSaid Tb) (hN : IntSaid Tb) (hL : Lies Tb) (w : World) (hT : Tb w) :
    Calls Tryz.prog 11 #[] w fun e w' => e = .returned (.bool true) ∧ Below w.heap.size w w' := by
  have HP := hid (parse_live hD hN hL w hT)
  clear hT
  go_enter Tryz.func11, Tryz.ntmps11
  go_wp2_with fail
  refine HP.out.mono ?_
  rintro e w1 ⟨hb1, b, o, B, C, D, rfl, hlt, q0, q1⟩
  have hba : Below w1.heap.size w1 (w1.alloc (.cells #[.int .i64 5, .int .i64 0, .string ⟨#[]⟩, .slice (some ⟨b, o, none⟩) 1 B, .slice C 0 D] 25)) := (Below.refl _ _).alloc (Nat.le_refl _) _
  have q0a : (w1.alloc (.cells #[.int .i64 5, .int .i64 0, .string ⟨#[]⟩, .slice (some ⟨b, o, none⟩) 1 B, .slice C 0 D] 25)).cell? ⟨b, o, none⟩ = some (.int .i64 2) := (hba.cell (p := ⟨b, o, none⟩) hlt).trans q0
  have q1a : (w1.alloc (.cells #[.int .i64 5, .int .i64 0, .string ⟨#[]⟩, .slice (some ⟨b, o, none⟩) 1 B, .slice C 0 D] 25)).cell? ⟨b, o + 1, none⟩ = some (.int .i64 1) := (hba.cell (p := ⟨b, o + 1, none⟩) hlt).trans q1
  have HB := hid (hb1.trans (hba.mono hb1.size))
  clear hb1 hba q0 q1 HP
  go_wp2_with fail
  go_ret
  exact ⟨rfl, HB.out⟩
end Go.Proofs.YtknakfpciccoaaaGreatDoor
/- The walks of cells, vast and room. -/
namespace Go.Proofs.YtknakfpciccoaaaGreatDoor
open Go.RowKit

set_option maxHeartbeats 400000 in
theorem cells_any (m : Nat) : ∀ (f : Nat) (v : Value) (t : T) (l : Int) (w : World), At w f v t → m ≤ 100 → 0 ≤ l → l ≤ 1048576 →
    Calls Tryz.prog 39 #[v, .int .i64 l, .int .i64 m] w fun e w' => e = .returned (.int .i64 (cellsT m t l)) ∧ Below w.heap.size w w' ∧ -17592186044416 ≤ cellsT m t l ∧ cellsT m t l ≤ 1048576 := by
  induction m with
  | zero =>
    intro f v t l w h _ hl0 hl1
    obtain ⟨f, La, Ka, Lc, Kc, rfl, rfl, hf, hl, hk⟩ := h.open
    have hlen := hf.l1
    have klen := hf.m1
    clear h hf hl hk
    go_enter Tryz.func39, Tryz.ntmps39
    go_wp2_with fail
    go_loopg [1, 7] 1 (fun g x i wr => x = .int .i64 (l - nL t - nK t) ∧ i = .int .i64 0 ∧ wr = (w.alloc (.cells #[.int .i64 (kindOf t), .int .i64 (nOf t), .string (sOf t), .slice La (nL t) Lc, .slice Ka (nK t) Kc] 25)))
    case atStart => exact ⟨rfl, rfl, rfl⟩
    case round =>
      obtain ⟨rfl, rfl, rfl⟩ := hrel
      by_cases h1 : 0 < nL t
      · by_cases h2 : 0 ≤ l - nL t - nK t
        · go_wp2_with fail
          go_ret
          exact ⟨rfl, (Below.refl _ _).alloc (Nat.le_refl _) _, by simp only [cellsT]; omega, by simp only [cellsT]; omega⟩
        · go_wp2_with fail
          go_ret
          exact ⟨rfl, (Below.refl _ _).alloc (Nat.le_refl _) _, by simp only [cellsT]; omega, by simp only [cellsT]; omega⟩
      · go_wp2_with fail
        go_ret
        exact ⟨rfl, (Below.refl _ _).alloc (Nat.le_refl _) _, by simp only [cellsT]; omega, by simp only [cellsT]; omega⟩
  | succ m ih =>
    intro f v t l w h hm hl0 hl1
    obtain ⟨f, La, Ka, Lc, Kc, rfl, rfl, hf, hl, hk⟩ := h.open
    have hlen := hf.l1
    have klen := hf.m1
    clear h hf hk
    have hm1 : (0 : Int) < (m : Int) + 1 := by omega
    have em : ((m : Int) + 1 - 1) = (m : Int) := by omega
    have H0 : Hid (cellsT (m + 1) t l = cellsL (cellsT m) t (nL t) (l - nL t - nK t)) := rfl
    go_enter Tryz.func39, Tryz.ntmps39
    go_wp2_with fail
    go_loopg [1, 7] (nL t) (fun g y i wr => ∃ (k : Nat) (x : Int), g = nL t - k ∧ k ≤ nL t ∧ y = .int .i64 x ∧ i = .int .i64 k ∧ Hid (cellsL (cellsT m) t k (l - nL t - nK t) = x) ∧ -17592186044416 ≤ x ∧ x ≤ 1048576 ∧ Below (w.heap.size + 1) (w.alloc (.cells #[.int .i64 (kindOf t), .int .i64 (nOf t), .string (sOf t), .slice La (nL t) Lc, .slice Ka (nK t) Kc] 25)) wr)
    case atStart => exact ⟨0, _, rfl, Nat.zero_le _, rfl, rfl, rfl, by omega, by omega, Below.refl _ _⟩
    case round =>
      obtain ⟨k, x, rfl, hk, rfl, rfl, HX, hx0, hx1, hb⟩ := hrel
      obtain ⟨q0, q1, q2, q3, q4, hz, hbw⟩ := box_facts hb
      have Hb := hid hb
      clear hb
      by_cases hlt : k < nL t
      · by_cases hge : 0 ≤ x
        · obtain ⟨b, o, c0, c1, c2, c3, c4, rfl, hbl, p0, p1, p2, p3, p4, Ha⟩ := hl.out.keep hbw k hlt
          go_wp2_with fail
          refine (ih _ _ _ _ _ Ha.out (by omega) hge hx1).mono ?_
          rintro e w2 ⟨rfl, hb2, y0, y1⟩
          have hb3 := hid (Hb.out.trans (hb2.mono (by omega)))
          go_wp2_with fail
          go_roundg (nL t - (k + 1))
          case rel =>
            refine ⟨k + 1, _, rfl, by omega, rfl, by go_num, ?_, y0, y1, hb3.out⟩
            show (if 0 ≤ cellsL (cellsT m) t k (l - nL t - nK t) then cellsT m (elt t k) (cellsL (cellsT m) t k (l - nL t - nK t)) else cellsL (cellsT m) t k (l - nL t - nK t)) = _
            rw [HX.out, if_pos hge]
          case measure => omega
        · go_wp2_with fail
          go_ret
          have e : cellsT (m + 1) t l = x := by rw [H0.out, cellsL_stop hk (by rw [HX.out]; omega), HX.out]
          exact ⟨ret_int e.symm, hbw, by rw [e]; exact hx0, by rw [e]; exact hx1⟩
      · go_wp2_with fail
        go_ret
        have e : cellsT (m + 1) t l = x := by rw [H0.out, ← HX.out]; congr 1; omega
        exact ⟨ret_int e.symm, hbw, by rw [e]; exact hx0, by rw [e]; exact hx1⟩

def vastT (t : T) : Bool := decide (cellsT 16 t 1048576 < 0)
set_option maxHeartbeats 400000 in
theorem vast_any (f : Nat) (v : Value) (t : T) (w : World) (h : At w f v t) :
    Calls Tryz.prog 12 #[v] w fun e w' => e = .returned (.bool (vastT t)) ∧ Below w.heap.size w w' := by
  obtain ⟨f, La, Ka, Lc, Kc, rfl, rfl, hf, hl, hk⟩ := h.open
  have H := hid h
  clear h
  go_enter Tryz.func12, Tryz.ntmps12
  go_wp2_with fail
  have hb : Below w.heap.size w (w.alloc (.cells #[.int .i64 (kindOf t), .int .i64 (nOf t), .string (sOf t), .slice La (nL t) Lc, .slice Ka (nK t) Kc] 25)) := (Below.refl _ _).alloc (Nat.le_refl _) _
  refine (cells_any 16 _ _ _ _ _ (H.out.keep hb) (by omega) (by omega) (by omega)).mono ?_
  rintro e w2 ⟨rfl, hb2, y0, y1⟩
  have hb3 := hid (hb.trans (hb2.mono (by simp)))
  generalize hv : cellsT 16 t 1048576 = X at y0 y1 ⊢
  have Hv := hid hv
  clear hv
  go_wp2_with fail
  go_ret
  exact ⟨ret_bool (by unfold vastT; rw [Hv.out]), hb3.out⟩

set_option maxHeartbeats 400000 in
theorem room_any (m : Nat) : ∀ (f : Nat) (v : Value) (t : T) (l : Int) (w : World), At w f v t → m ≤ 100 → -140737488355330 ≤ l → l ≤ 1048576 →
    Calls Tryz.prog 80 #[v, .int .i64 l, .int .i64 ((m : Int) - 1)] w fun e w' => e = .returned (.int .i64 (roomT m t l)) ∧ Below w.heap.size w w' ∧ -281474976710700 ≤ roomT m t l ∧ roomT m t l ≤ 1048576 := by
  induction m with
  | zero =>
    intro f v t l w h _ hl0 hl1
    obtain ⟨f, La, Ka, Lc, Kc, rfl, rfl, hf, hl, hk⟩ := h.open
    clear h hf hl hk
    go_enter Tryz.func80, Tryz.ntmps80
    go_wp2_with fail
    go_ret
    exact ⟨rfl, (Below.refl _ _).alloc (Nat.le_refl _) _, by simp [roomT], by simp [roomT]⟩
  | succ m ih =>
    intro f v t l w h hm hl0 hl1
    obtain ⟨f, La, Ka, Lc, Kc, rfl, rfl, hf, hl, hk⟩ := h.open
    have hlen := hf.l1
    have klen := hf.m1
    have slen := hf.s1
    clear h hf
    have em : (((m + 1 : Nat) : Int) - 1) = (m : Int) := by omega
    rw [em]
    have e0 : ¬ ((m : Int) < 0) := by omega
    by_cases k2 : kindOf t = 2
    · have g2 : (kindOf t == 2) = true := by simp [k2]
      have H0 : Hid (roomT (m + 1) t l = l - 2) := by show roomT (m + 1) t l = _; simp only [roomT, k2, if_true]
      clear k2
      go_enter Tryz.func80, Tryz.ntmps80
      go_wp2_with fail
      go_ret
      refine ⟨ret_int (by rw [H0.out]; omega), (Below.refl _ _).alloc (Nat.le_refl _) _, by rw [H0.out]; omega, by rw [H0.out]; omega⟩
    by_cases k3 : kindOf t = 3
    · have g2 : (kindOf t == 2) = false := by simp [k3]
      have g3 : (kindOf t == 3) = true := by simp [k3]
      have H0 : Hid (roomT (m + 1) t l = l - 9) := by show roomT (m + 1) t l = _; simp [roomT, k3]
      clear k2 k3
      go_enter Tryz.func80, Tryz.ntmps80
      go_wp2_with fail
      go_ret
      refine ⟨ret_int (by rw [H0.out]; omega), (Below.refl _ _).alloc (Nat.le_refl _) _, by rw [H0.out]; omega, by rw [H0.out]; omega⟩
    by_cases k4 : kindOf t = 4
    · have g2 : (kindOf t == 2) = false := by simp [k4]
      have g3 : (kindOf t == 3) = false := by simp [k4]
      have g4 : (kindOf t == 4) = true := by simp [k4]
      have H0 : Hid (roomT (m + 1) t l = l - 5 - (sOf t).size) := by show roomT (m + 1) t l = _; simp [roomT, k4]
      clear k2 k3 k4
      go_enter Tryz.func80, Tryz.ntmps80
      go_wp2_with fail
      go_ret
      refine ⟨ret_int (by rw [H0.out]; omega), (Below.refl _ _).alloc (Nat.le_refl _) _, by rw [H0.out]; omega, by rw [H0.out]; omega⟩
    by_cases k5 : isBox t = true
    · have g2 : (kindOf t == 2) = false := by simp [k2]
      have g3 : (kindOf t == 3) = false := by simp [k3]
      have g4 : (kindOf t == 4) = false := by simp [k4]
      have H0 : Hid (roomT (m + 1) t l = roomL (roomT m) t (nL t) (l - 5)) := by show roomT (m + 1) t l = _; simp [roomT, k2, k3, k4, k5]
      have K6 : Hid (kindOf t = 6 ↔ (kindOf t == 6) = true) := by simp [Hid]
      have g5 : (kindOf t == 5) = true ∧ (kindOf t == 6) = false ∨ (kindOf t == 5) = false ∧ (kindOf t == 6) = true := by
        simp only [isBox, Bool.or_eq_true, beq_iff_eq] at k5
        rcases k5 with h5 | h5 <;> simp [h5]
      clear k2 k3 k4 k5
      rcases g5 with ⟨g5, g6⟩ | ⟨g5, g6⟩
      all_goals
        go_enter Tryz.func80, Tryz.ntmps80
        go_wp2_with fail
        go_loopg [1, 7] (nL t) (fun g y i wr => ∃ (k : Nat) (x : Int), g = nL t - k ∧ k ≤ nL t ∧ y = .int .i64 x ∧ i = .int .i64 k ∧ Hid (roomL (roomT m) t k (l - 5) = x) ∧ -281474976710700 ≤ x ∧ x ≤ 1048576 ∧ Below (w.heap.size + 1) (w.alloc (.cells #[.int .i64 (kindOf t), .int .i64 (nOf t), .string (sOf t), .slice La (nL t) Lc, .slice Ka (nK t) Kc] 25)) wr)
        case atStart => exact ⟨0, l - 5, rfl, Nat.zero_le _, by go_num, rfl, rfl, by omega, by omega, Below.refl _ _⟩
        case round =>
          obtain ⟨k, x, rfl, hk1, rfl, rfl, HX, hx0, hx1, hb⟩ := hrel
          obtain ⟨q0, q1, q2, q3, q4, hz, hbw⟩ := box_facts hb
          have Hb := hid hb
          clear hb
          by_cases hlt : k < nL t
          · by_cases hge : 0 ≤ x
            · obtain ⟨b, o, c0, c1, c2, c3, c4, rfl, hbl, p0, p1, p2, p3, p4, Ha⟩ := hl.out.keep hbw k hlt
              have fin : ∀ (y : Int), Hid (x - nameCost t k = y) → Hid (roomL (roomT m) t (k + 1) (l - 5) = roomT m (elt t k) y) := by
                intro y hy
                show (if 0 ≤ roomL (roomT m) t k (l - 5) then roomT m (elt t k) (roomL (roomT m) t k (l - 5) - nameCost t k) else roomL (roomT m) t k (l - 5)) = _
                rw [HX.out, if_pos hge, hy.out]
              by_cases hkk : k < nK t
              · obtain ⟨kb, ko, rfl, hkb, hks, hkc⟩ := hk.out.keep hbw k hkk
                go_wp2_with fail
                refine (ih _ _ _ _ _ Ha.out (by omega) (by omega) (by omega)).mono ?_
                rintro e w2 ⟨rfl, hb2, y0, y1⟩
                have hb3 := hid (Hb.out.trans (hb2.mono (by omega)))
                go_wp2_with fail
                go_roundg (nL t - (k + 1))
                case rel =>
                  refine ⟨k + 1, _, rfl, by omega, rfl, by go_num, fin _ ?_, y0, y1, hb3.out⟩
                  show x - nameCost t k = _
                  unfold nameCost
                  first
                    | (rw [if_neg (fun h => by have := K6.out.1 h.1; rw [g6] at this; cases this)]; omega)
                    | (rw [if_pos ⟨K6.out.2 g6, hkk⟩]; omega)
                case measure => omega
              · go_wp2_with fail
                refine (ih _ _ _ _ _ Ha.out (by omega) (by omega) (by omega)).mono ?_
                rintro e w2 ⟨rfl, hb2, y0, y1⟩
                have hb3 := hid (Hb.out.trans (hb2.mono (by omega)))
                go_wp2_with fail
                go_roundg (nL t - (k + 1))
                case rel =>
                  refine ⟨k + 1, _, rfl, by omega, rfl, by go_num, fin _ ?_, y0, y1, hb3.out⟩
                  show x - nameCost t k = _
                  unfold nameCost
                  rw [if_neg (fun h => hkk h.2)]
                  omega
                case measure => omega
            · go_wp2_with fail
              go_ret
              have e : roomT (m + 1) t l = x := by rw [H0.out, roomL_stop hk1 (by rw [HX.out]; omega), HX.out]
              exact ⟨ret_int e.symm, hbw, by rw [e]; exact hx0, by rw [e]; exact hx1⟩
          · go_wp2_with fail
            go_ret
            have e : roomT (m + 1) t l = x := by rw [H0.out, ← HX.out]; congr 1; omega
            exact ⟨ret_int e.symm, hbw, by rw [e]; exact hx0, by rw [e]; exact hx1⟩
    · have g2 : (kindOf t == 2) = false := by simp [k2]
      have g3 : (kindOf t == 3) = false := by simp [k3]
      have g4 : (kindOf t == 4) = false := by simp [k4]
      have H0 : Hid (roomT (m + 1) t l = l - 1) := by show roomT (m + 1) t l = _; simp [roomT, k2, k3, k4, k5]
      have g5 : (kindOf t == 5) = false ∧ (kindOf t == 6) = false := by simp [isBox] at k5; simp; exact k5
      obtain ⟨g5, g6⟩ := g5
      clear k2 k3 k4 k5
      go_enter Tryz.func80, Tryz.ntmps80
      go_wp2_with fail
      go_ret
      refine ⟨ret_int (by rw [H0.out]), (Below.refl _ _).alloc (Nat.le_refl _) _, by rw [H0.out]; omega, by rw [H0.out]; omega⟩
end Go.Proofs.YtknakfpciccoaaaGreatDoor
/- A box of a value in memory. -/
namespace Go.Proofs.YtknakfpciccoaaaGreatDoor
open Go.RowKit

/-- Five cells of a block. -/
def Box (w : World) (b : Nat) (c0 c1 c2 c3 c4 : Value) : Prop := (w.cell? ⟨b, 0, none⟩ = some c0 ∧ w.cell? ⟨b, 1, none⟩ = some c1 ∧ w.cell? ⟨b, 2, none⟩ = some c2 ∧ w.cell? ⟨b, 3, none⟩ = some c3 ∧ w.cell? ⟨b, 4, none⟩ = some c4) ∧ b < w.heap.size
theorem Box.keep {w w' : World} {b : Nat} {c0 c1 c2 c3 c4 : Value} (h : Box w b c0 c1 c2 c3 c4) (hb : Below w.heap.size w w') : Box w' b c0 c1 c2 c3 c4 := by
  obtain ⟨⟨a0, a1, a2, a3, a4⟩, hl⟩ := h
  exact ⟨⟨(hb.cell (p := ⟨b, 0, none⟩) hl).trans a0, (hb.cell (p := ⟨b, 1, none⟩) hl).trans a1, (hb.cell (p := ⟨b, 2, none⟩) hl).trans a2, (hb.cell (p := ⟨b, 3, none⟩) hl).trans a3, (hb.cell (p := ⟨b, 4, none⟩) hl).trans a4⟩, Nat.lt_of_lt_of_le hl hb.size⟩
theorem Box.made (w : World) (c0 c1 c2 c3 c4 : Value) : Box (w.alloc (.cells #[c0, c1, c2, c3, c4] 25)) w.heap.size c0 c1 c2 c3 c4 := by
  refine ⟨⟨?_, ?_, ?_, ?_, ?_⟩, by simp⟩ <;> simp [go_sem]
theorem below_alloc (w : World) (o : Obj) : Below w.heap.size w (w.alloc o) := (Below.refl _ _).alloc (Nat.le_refl _) _
end Go.Proofs.YtknakfpciccoaaaGreatDoor
