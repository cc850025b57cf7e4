import Derived.Test.YtknakfpciccoaaaGreatDoorZO1
import Derived.Test.YtknakfpciccoaaaGreatDoorProg
import Derived.Deep.Strs
import Derived.SizedLaws
import Derived.ProofKit
import Derived.OpenShut
import Derived.Shelf.Unicode.ValidAny
import Derived.Test.YtknakfpciccoaaaGreatDoorCards
import Derived.Test.YtknakfpciccoaaaGreatDoorTie
import Derived.Lib.AppendIntMem
import Derived.Lib.LaidTab
import Derived.Stop.LaidErr
import Derived.ChangeMaps5
import Derived.Lib.LaidIn
import Derived.Lib.LaidU8T
import Derived.Deep.DeepHandedRow
import Derived.Deep.DeepWitnessRowRef
import Derived.Test.YtknakfpciccoaaaGreatDoorZO25
import Derived.Test.YtknakfpciccoaaaGreatDoorZO28
import Derived.Test.YtknakfpciccoaaaGreatDoorZO3
/- What is read of an argument: a tree, and where it lies. -/
namespace Go.Proofs.YtknakfpciccoaaaGreatDoor
open Go.ChangeShapes Go.WideShapes Go.ChangeAt Go.RowKit Go.Deep

theorem under25 : ∃ f0 f1 f2 f3 f4 : Field, Tryz.prog.underlying 25 = some (.struct #[f0, f1, f2, f3, f4]) ∧ (f0.type = 3 ∧ f0.offset = 0) ∧ (f1.type = 2 ∧ f1.offset = 1) ∧ (f2.type = 9 ∧ f2.offset = 2) ∧ (f3.type = 22 ∧ f3.offset = 3) ∧ (f4.type = 23 ∧ f4.offset = 4) := by
  exact ⟨_, _, _, _, _, Tryz.underlying25, ⟨rfl, rfl⟩, ⟨rfl, rfl⟩, ⟨rfl, rfl⟩, ⟨rfl, rfl⟩, ⟨rfl, rfl⟩⟩
theorem cells26 : Tryz.prog.cellsOf 25 = 5 := by kernel_rfl
theorem cells3 : Tryz.prog.cellsOf 3 = 1 := by kernel_rfl
theorem cells2 : Tryz.prog.cellsOf 2 = 1 := by kernel_rfl
theorem cells9 : Tryz.prog.cellsOf 9 = 1 := by kernel_rfl
theorem cells23 : Tryz.prog.cellsOf 22 = 1 := by kernel_rfl
theorem cells24 : Tryz.prog.cellsOf 23 = 1 := by kernel_rfl
theorem bytes26 : Tryz.prog.bytesOf 25 = 80 := by kernel_rfl
theorem bytes9 : Tryz.prog.bytesOf 9 = 16 := by kernel_rfl
section
variable {H : Type} {enc : TypeId × Value → H} {W : World}
set_option maxRecDepth 100000 in
theorem trod5 {fuel : Nat} {cs : List Value} {x : DataW H × List MemPlace} (h : DataW.trod enc Tryz.prog W 0 (fun _ => true) true fuel 25 cs = some x) :
    ∃ c0 c1 c2 c3 c4 y0 y1 y2 y3 y4 n, fuel = n + 1 ∧ cs = [c0, c1, c2, c3, c4] ∧ x = (.agg [y0.1, y1.1, y2.1, y3.1, y4.1], y0.2 ++ (y1.2 ++ (y2.2 ++ (y3.2 ++ y4.2)))) ∧
      DataW.trod enc Tryz.prog W 0 (fun _ => true) true n 3 [c0] = some y0 ∧ DataW.trod enc Tryz.prog W 0 (fun _ => true) true n 2 [c1] = some y1 ∧ DataW.trod enc Tryz.prog W 0 (fun _ => true) true n 9 [c2] = some y2 ∧ DataW.trod enc Tryz.prog W 0 (fun _ => true) true n 22 [c3] = some y3 ∧ DataW.trod enc Tryz.prog W 0 (fun _ => true) true n 23 [c4] = some y4 := by
  obtain ⟨f0, f1, f2, f3, f4, hu, ⟨a0, b0⟩, ⟨a1, b1⟩, ⟨a2, b2⟩, ⟨a3, b3⟩, ⟨a4, b4⟩⟩ := under25
  obtain ⟨xs, n, hn, rfl, hl, hlen, hf⟩ := DataW.trod_struct hu h
  rw [cells26] at hl
  match cs, hl, xs, hlen with
  | [c0, c1, c2, c3, c4], _, [y0, y1, y2, y3, y4], _ =>
    refine ⟨c0, c1, c2, c3, c4, y0, y1, y2, y3, y4, n, hn, rfl, by simp, ?_, ?_, ?_, ?_, ?_⟩
    · have := hf 0 f0 rfl; rw [a0, b0, cells3] at this; simpa using this
    · have := hf 1 f1 rfl; rw [a1, b1, cells2] at this; simpa using this
    · have := hf 2 f2 rfl; rw [a2, b2, cells9] at this; simpa using this
    · have := hf 3 f3 rfl; rw [a3, b3, cells23] at this; simpa using this
    · have := hf 4 f4 rfl; rw [a4, b4, cells24] at this; simpa using this
theorem At.more : ∀ {f : Nat} {v : Value} {t : T}, At W f v t → At W (f + 1) v t := by
  intro f
  induction f with
  | zero => intro v t h; exact h.elim
  | succ f ih =>
    rintro v t ⟨La, Ka, Lc, Kc, rfl, hf, hl, hk⟩
    refine ⟨La, Ka, Lc, Kc, rfl, hf, fun i hi => ?_, hk⟩
    obtain ⟨b, o, c0, c1, c2, c3, c4, h0, hb, q0, q1, q2, q3, q4, ha⟩ := hl i hi
    exact ⟨b, o, c0, c1, c2, c3, c4, h0, hb, q0, q1, q2, q3, q4, ih ha⟩
theorem addr_spot {a : Addr} {v : Value} (h : W.cell? a = some v) : a = ⟨a.block, a.off, none⟩ := by
  have := World.cell?_spot h
  cases a
  simp only at this
  rw [this]
theorem lt_of_cell {a : Addr} {v : Value} (h : W.cell? a = some v) : a.block < W.heap.size := by
  rcases Nat.lt_or_ge a.block W.heap.size with h' | h'
  · exact h'
  · simp [World.cell?, Array.getElem?_eq_none h'] at h
/-- The names. -/
theorem names_of {fuel : Nat} {c4 : Value} {y : DataW H × List MemPlace} (h : DataW.trod enc Tryz.prog W 0 (fun _ => true) true fuel 23 [c4] = some y) (hw : ∀ n ∈ y.1.weights Tryz.prog 23, n ≤ reachBytes) :
    ∃ (Ka : Option Addr) (Kc : Nat) (ks : List ByteArray), c4 = .slice Ka ks.length Kc ∧ ks.length ≤ 8796093022208 ∧ ∀ i, i < ks.length → ∃ b o, Ka = some ⟨b, o, none⟩ ∧ b < W.heap.size ∧ (ks.getD i ByteArray.empty).size ≤ 140737488355328 ∧ W.cell? ⟨b, o + i, none⟩ = some (.string (ks.getD i ByteArray.empty)) := by
  rcases open_strs Tryz.underlying23 Tryz.underlying9 cells9 h with ⟨hc, rfl⟩ | ⟨a, len, cap, m, Sx, hc, _, hl, _, hm, rfl, hcell⟩
  · simp only [List.cons.injEq, and_true] at hc
    exact ⟨none, 0, [], hc, by simp, fun i hi => absurd hi (Nat.not_lt_zero _)⟩
  · simp only [List.cons.injEq, and_true] at hc
    simp only [if_true] at hm
    subst hm
    have hlen : ((List.range len).map Sx).length = len := by simp
    refine ⟨some a, m, (List.range len).map Sx, by rw [hlen]; exact hc, ?_, fun i hi => ?_⟩
    · have := hw (((List.range len).map fun i => (DataW.lit (.string (Sx i).data.toList) : DataW H)).length * 16 + ((List.range (m - len)).map fun j => (DataW.lit (.string (Sx (len + j)).data.toList) : DataW H)).length * 16) (by
          simp only [DataW.weights, Tryz.underlying23, bytes9]
          rw [Nat.add_mul]
          exact List.mem_cons_self ..)
      rw [hlen]
      simp only [List.length_map, List.length_range, reachBytes] at this
      omega
    · rw [hlen] at hi
      obtain ⟨h1, _⟩ := hcell i (by omega)
      obtain ⟨h0, _⟩ := hcell 0 (by omega)
      have ha : a = ⟨a.block, a.off, none⟩ := by
        have := addr_spot h0
        simpa [Addr.add] using this
      have e : ((List.range len).map Sx).getD i ByteArray.empty = Sx i := by simp [List.getD, hi]
      rw [e]
      refine ⟨a.block, a.off, by rw [← ha], ?_, ?_, ?_⟩
      · have := lt_of_cell h0
        simpa [Addr.add] using this
      · have := hw (Sx i).data.toList.length (by
          simp only [DataW.weights, Tryz.underlying23]
          apply List.mem_cons_of_mem
          apply List.mem_append_left
          have hmem : (DataW.lit (.string (Sx i).data.toList) : DataW H) ∈ (List.range len).map fun i => (DataW.lit (.string (Sx i).data.toList) : DataW H) := List.mem_map.2 ⟨i, List.mem_range.2 hi, rfl⟩
          have all : ∀ (l : List (DataW H)) (d : DataW H), d ∈ l → ∀ n ∈ d.weights Tryz.prog 9, n ∈ DataW.weightsAll Tryz.prog 9 l := by
            intro l
            induction l with
            | nil => intro d hd; cases hd
            | cons x r ih =>
              intro d hd n hn
              simp only [DataW.weightsAll, List.mem_append]
              rcases List.mem_cons.1 hd with rfl | hd
              · exact Or.inl hn
              · exact Or.inr (ih d hd n hn)
          exact all _ _ hmem _ (by simp [DataW.weights]))
        have hz : (Sx i).size = (Sx i).data.toList.length := rfl
        simp only [reachBytes] at this
        omega
      · rw [ha, add_plain] at h1
        exact h1
theorem weightsAll_mem {e : TypeId} : ∀ (l : List (DataW H)) (d : DataW H), d ∈ l → ∀ n ∈ d.weights Tryz.prog e, n ∈ DataW.weightsAll Tryz.prog e l := by
  intro l
  induction l with
  | nil => intro d hd; cases hd
  | cons x r ih =>
    intro d hd n hn
    simp only [DataW.weightsAll, List.mem_append]
    rcases List.mem_cons.1 hd with rfl | hd
    · exact Or.inl hn
    · exact Or.inr (ih d hd n hn)
set_option maxRecDepth 100000 in
/-- The values. -/
theorem values_of {n : Nat} (ih : ∀ (m : Nat), m < n → ∀ (cs : List Value) (x : DataW H × List MemPlace), DataW.trod enc Tryz.prog W 0 (fun _ => true) true m 25 cs = some x → (∀ k ∈ x.1.weights Tryz.prog 25, k ≤ reachBytes) → ∃ t, At W m (.agg cs.toArray) t)
    {c3 : Value} {y : DataW H × List MemPlace} (h : DataW.trod enc Tryz.prog W 0 (fun _ => true) true n 22 [c3] = some y) (hw : ∀ k ∈ y.1.weights Tryz.prog 22, k ≤ reachBytes) :
    ∃ (La : Option Addr) (Lc : Nat) (l : List T), c3 = .slice La l.length Lc ∧ l.length ≤ 1759218604442 ∧ ∀ i, i < l.length → ∃ b o c0 c1 c2 c3 c4, La = some ⟨b, o, none⟩ ∧ b < W.heap.size ∧ W.cell? ⟨b, o + i * 5, none⟩ = some c0 ∧ W.cell? ⟨b, o + i * 5 + 1, none⟩ = some c1 ∧ W.cell? ⟨b, o + i * 5 + 2, none⟩ = some c2 ∧ W.cell? ⟨b, o + i * 5 + 3, none⟩ = some c3 ∧ W.cell? ⟨b, o + i * 5 + 4, none⟩ = some c4 ∧ At W n (.agg #[c0, c1, c2, c3, c4]) (l.getD i .nil) := by
  rcases DataW.trod_slice Tryz.underlying22 h with ⟨hc, rfl⟩ | ⟨a, len, cap, elems, rest, m, hn, hc, rfl, _, hl, _, hlen, hel, _, _⟩
  · simp only [List.cons.injEq, and_true] at hc
    exact ⟨none, 0, [], hc, by simp, fun i hi => absurd hi (Nat.not_lt_zero _)⟩
  · simp only [List.cons.injEq, and_true] at hc
    have hkids : ∀ i, i < len → ∃ t : T, ∃ c0 c1 c2 c3 c4, a = ⟨a.block, a.off, none⟩ ∧ a.block < W.heap.size ∧ W.cell? ⟨a.block, a.off + i * 5, none⟩ = some c0 ∧ W.cell? ⟨a.block, a.off + i * 5 + 1, none⟩ = some c1 ∧ W.cell? ⟨a.block, a.off + i * 5 + 2, none⟩ = some c2 ∧ W.cell? ⟨a.block, a.off + i * 5 + 3, none⟩ = some c3 ∧ W.cell? ⟨a.block, a.off + i * 5 + 4, none⟩ = some c4 ∧ At W n (.agg #[c0, c1, c2, c3, c4]) t := by
      intro i hi
      have he := hel i hi
      rw [cells26] at he
      have hi2 : i < elems.length := by omega
      rw [List.getElem?_eq_getElem hi2] at he
      obtain ⟨cs, hcs, htr⟩ := Option.bind_eq_some_iff.1 he
      obtain ⟨_, hcl, hcell⟩ := World.cells?_some hcs
      have hwk : ∀ k ∈ (elems[i]).1.weights Tryz.prog 25, k ≤ reachBytes := by
        intro k hk
        apply hw
        simp only [DataW.weights, Tryz.underlying22]
        apply List.mem_cons_of_mem
        apply List.mem_append_left
        exact weightsAll_mem _ _ (List.mem_map.2 ⟨elems[i], List.getElem_mem hi2, rfl⟩) _ hk
      obtain ⟨t, ht⟩ := ih m (by omega) cs _ htr hwk
      obtain ⟨c0, c1, c2, c3, c4, y0, y1, y2, y3, y4, n', _, rfl, _⟩ := trod5 htr
      have e0 := hcell 0 (by omega)
      have e1 := hcell 1 (by omega)
      have e2 := hcell 2 (by omega)
      have e3 := hcell 3 (by omega)
      have e4 := hcell 4 (by omega)
      simp only [List.getElem?_cons_zero, List.getElem?_cons_succ] at e0 e1 e2 e3 e4
      have ha : a = ⟨a.block, a.off, none⟩ := by
        by_cases h0 : i = 0
        · subst h0
          have := addr_spot e0
          simpa [Addr.add] using this
        · obtain ⟨cs0, hcs0, htr0⟩ : ∃ cs0, W.cells? 0 (a.add (0 * 5)) 5 = some cs0 ∧ True := by
            have he0 := hel 0 (by omega)
            rw [cells26, List.getElem?_eq_getElem (by omega)] at he0
            obtain ⟨cs0, h1, _⟩ := Option.bind_eq_some_iff.1 he0
            exact ⟨cs0, h1, trivial⟩
          obtain ⟨_, hcl0, hcell0⟩ := World.cells?_some hcs0
          have g0 := hcell0 0 (by omega)
          rw [List.getElem?_eq_getElem (by omega)] at g0
          have := addr_spot g0
          simpa [Addr.add] using this
      rw [ha, add_plain, add_plain] at e0 e1 e2 e3 e4
      refine ⟨t, c0, c1, c2, c3, c4, ha, ?_, e0, e1, e2, e3, e4, ?_⟩
      · exact lt_of_cell (a := ⟨a.block, _, none⟩) e0
      · have hmn : ∃ j, n = m + 1 + j := ⟨0, by omega⟩
        rw [hn]
        exact At.more ht
    obtain ⟨f, hf⟩ := choose_lt (α := T) hkids
    have hfl : ((List.range len).map f).length = len := by simp
    refine ⟨some a, cap, (List.range len).map f, by rw [hfl]; exact hc, ?_, fun i hi => ?_⟩
    · have := hw ((elems.map (·.1)).length * 80 + (rest.map (·.1)).length * 80) (by
          simp only [DataW.weights, Tryz.underlying22, bytes26]
          rw [Nat.add_mul]
          exact List.mem_cons_self ..)
      rw [hfl]
      simp only [List.length_map, reachBytes] at this
      omega
    · rw [hfl] at hi
      obtain ⟨c0, c1, c2, c3, c4, ha, hb, q0, q1, q2, q3, q4, hat⟩ := hf i hi
      have e : ((List.range len).map f).getD i .nil = f i := by simp [List.getD, hi]
      rw [e]
      exact ⟨a.block, a.off, c0, c1, c2, c3, c4, by rw [← ha], hb, q0, q1, q2, q3, q4, hat⟩
theorem weights26 (d0 d1 d2 d3 d4 : DataW H) : (DataW.agg [d0, d1, d2, d3, d4] : DataW H).weights Tryz.prog 25 = d0.weights Tryz.prog 3 ++ (d1.weights Tryz.prog 2 ++ (d2.weights Tryz.prog 9 ++ (d3.weights Tryz.prog 22 ++ (d4.weights Tryz.prog 23 ++ [])))) := by
  simp only [DataW.weights, Tryz.underlying25]
  rfl
/-- WHAT IS READ AS A VALUE LIES IN MEMORY AS A TREE. -/
theorem at_of_trod : ∀ (fuel : Nat) (cs : List Value) (x : DataW H × List MemPlace), DataW.trod enc Tryz.prog W 0 (fun _ => true) true fuel 25 cs = some x → (∀ k ∈ x.1.weights Tryz.prog 25, k ≤ reachBytes) → ∃ t, At W fuel (.agg cs.toArray) t := by
  intro fuel
  induction fuel using Nat.strongRecOn with
  | _ fuel ih =>
    intro cs x h hw
    obtain ⟨c0, c1, c2, c3, c4, y0, y1, y2, y3, y4, n, hn, rfl, rfl, h0, h1, h2, h3, h4⟩ := trod5 h
    rw [weights26] at hw
    obtain ⟨k, e0, _, w0⟩ := DataW.trod_int Tryz.underlying3 h0
    obtain ⟨m, e1, _, w1⟩ := DataW.trod_int Tryz.underlying2 h1
    obtain ⟨s, e2, r2, w2⟩ := DataW.trod_string Tryz.underlying9 h2
    obtain ⟨Ka, Kc, ks, rfl, hk1, hk2⟩ := names_of h4 (fun k hk => hw k (by simp [hk]))
    obtain ⟨La, Lc, l, rfl, hl1, hl2⟩ := values_of (n := n) (fun m hm cs x h1 h2 => ih m (by omega) cs x h1 h2) h3 (fun k hk => hw k (by simp [hk]))
    simp only [List.cons.injEq, and_true] at e0 e1 e2
    subst e0 e1 e2
    have hs : s.size ≤ 140737488355328 := by
      have := hw s.data.toList.length (by rw [r2]; simp [DataW.weights])
      have hz : s.size = s.data.toList.length := rfl
      simp only [reachBytes] at this
      omega
    have b0 : -9223372036854775808 ≤ k ∧ k ≤ 9223372036854775807 := by have := bounds_i64 w0; omega
    have b1 : -9223372036854775808 ≤ m ∧ m ≤ 9223372036854775807 := by have := bounds_i64 w1; omega
    have eK : kOf (mkT k m s l ks) = ks := kOf_mk _ _ _ _ _
    refine ⟨mkT k m s l ks, ?_⟩
    rw [hn]
    refine ⟨La, Ka, Lc, Kc, ?_, ⟨b0.1, b0.2, b1.1, b1.2, hs, hl1, ?_⟩, ?_, ?_⟩
    · unfold nK; rw [eK]; rfl
    · unfold nK; rw [eK]; exact hk1
    · exact hl2
    · intro i hi
      unfold nK at hi
      rw [eK] at hi
      unfold nam
      rw [eK]
      exact hk2 i hi
end
end Go.Proofs.YtknakfpciccoaaaGreatDoor
/- The contract of utf8.ValidString, of the library's shelf, laid at this dump: the table of its numbers, and that each body is the one it was proved of.
-/
namespace Go.Proofs
open Go.Shelf
def Tryz.laysValid_ren : Go.Shelf.Ren := ⟨fun | 196 => 160 | 259 => 194 | n => n, fun | 9 => 9 | 4 => 4 | 3 => 3 | 5 => 5 | 12 => 12 | 119 => 209 | 0 => 0 | 46 => 155 | 139 => 212 | 138 => 211 | 53 => 127 | n => n, fun | 3 => 0 | 4 => 1 | n => n⟩
theorem Tryz.laysValid : Go.Proofs.Lays.n196 Tryz.prog Tryz.laysValid_ren := {
  mixed := by kernel_rfl
  f196 := Tryz.func160.trans (congrArg some (by kernel_rfl))
  f259 := Tryz.func194.trans (congrArg some (by kernel_rfl))
  t0 := Tryz.underlying0
  a0 := Tryz.isAgg0
  z0 := Tryz.sizeOf0
  v0 := Tryz.zeroValue0
  t3 := Tryz.underlying3
  a3 := Tryz.isAgg3
  z3 := Tryz.sizeOf3
  v3 := Tryz.zeroValue3
  t4 := Tryz.underlying4
  a4 := Tryz.isAgg4
  z4 := Tryz.sizeOf4
  v4 := Tryz.zeroValue4
  t5 := Tryz.underlying5
  a5 := Tryz.isAgg5
  z5 := Tryz.sizeOf5
  v5 := Tryz.zeroValue5
  t9 := Tryz.underlying9
  a9 := Tryz.isAgg9
  z9 := Tryz.sizeOf9
  v9 := Tryz.zeroValue9
  t12 := Tryz.underlying12
  a12 := Tryz.isAgg12
  z12 := Tryz.sizeOf12
  v12 := Tryz.zeroValue12
  t46 := Tryz.underlying155
  a46 := Tryz.isAgg155
  z46 := Tryz.sizeOf155
  v46 := Tryz.zeroValue155
  t53 := Tryz.underlying127
  a53 := Tryz.isAgg127
  z53 := Tryz.sizeOf127
  v53 := Tryz.zeroValue127
  t119 := Tryz.underlying209
  a119 := Tryz.isAgg209
  z119 := Tryz.sizeOf209
  t138 := Tryz.underlying211
  a138 := Tryz.isAgg211
  z138 := Tryz.sizeOf211
  v138 := Tryz.zeroValue211
  t139 := Tryz.underlying212
  a139 := Tryz.isAgg212
  z139 := Tryz.sizeOf212
  v139 := Tryz.zeroValue212
  g3 := by kernel_rfl
  g4 := by kernel_rfl }
end Go.Proofs
/- The tables that the seat's rows lay, in memory; what a row asks of the program alone. -/
namespace Go.Proofs.YtknakfpciccoaaaGreatDoor
open Go.ChangeShapes Go.WideShapes Go.ChangeAt Go.RowKit Go.Lib Go.Shelf
open Go.ChangeMaps (open_string shut_string)

/-- An error of the library's, in a cell. -/
def IsErr (w : World) (g : Nat) : Prop := ∃ te pe, w.cell? ⟨g, 0, none⟩ = some (.iface te pe)
/-- The tables of package utf8, and two errors of package strconv, in memory. -/
def Tabs2 (w : World) : Prop := Lib.Utf8Tabs 0 1 w ∧ IsErr w 5 ∧ IsErr w 6 ∧ Lib.TabIs Tryz.prog w "internal/strconv.uint64pow10" .u64 Lib.pow10Tab
theorem var_keep {n : String} {cs : Array Value} {w0 w w' : World} {cs0 : Array Value} (h0 : w0.var? Tryz.prog n = some cs0) (h : w.var? Tryz.prog n = some cs) (hb : Below w0.heap.size w w') : w'.var? Tryz.prog n = some cs := by
  unfold World.var? at h0 h ⊢
  cases hg : Tryz.prog.globalNamed n with
  | none => simp [hg] at h
  | some g =>
    simp only [hg, Option.bind_some] at h0 h ⊢
    have hlt : g < w0.heap.size := by
      rcases Nat.lt_or_ge g w0.heap.size with h' | h'
      · exact h'
      · simp [Array.getElem?_eq_none h'] at h0
    rw [hb.block g hlt]
    exact h
theorem tabs2_lie : Lies Tabs2 := by
  intro w0 h0 w w' h hb
  have lt : ∀ {a : Addr} {v : Value}, w0.cell? a = some v → a.block < w0.heap.size := fun {a v} hc => by
    rcases Nat.lt_or_ge a.block w0.heap.size with h' | h'
    · exact h'
    · simp [World.cell?, Array.getElem?_eq_none h'] at hc
  have err : ∀ {g : Nat}, IsErr w0 g → IsErr w g → IsErr w' g := fun {g} h1 h2 => by
    obtain ⟨t1, p1, e1⟩ := h1
    obtain ⟨t2, p2, e2⟩ := h2
    exact ⟨t2, p2, (hb.cell (lt e1)).trans e2⟩
  exact ⟨⟨fun c hc => (hb.cell (lt (h0.1.1 c hc))).trans (h.1.1 c hc), fun i hi => ⟨(hb.cell (lt (h0.1.2 i hi).1)).trans (h.1.2 i hi).1, (hb.cell (lt (h0.1.2 i hi).2)).trans (h.1.2 i hi).2⟩⟩, err h0.2.1 h.2.1, err h0.2.2.1 h.2.2.1, var_keep h0.2.2.2 h.2.2.2 hb⟩
theorem dec_said : DecSaid Tabs2 := fun s w hT => by
  have := Any.utf8_DecodeRuneInString Tryz.laysDecode s w hT.1
  refine this.mono ?_
  rintro e w' ⟨rfl, hb⟩
  refine ⟨?_, hb⟩
  unfold decG Lib.decodeGo
  split <;> rfl
theorem below_bytes (w : World) (e : TypeId) (s : ByteArray) : Below w.heap.size w (Lib.bytesWorld w e s) :=
  ⟨rfl, rfl, rfl, by rw [Lib.bytesWorld_size]; omega, fun j hj => Lib.bytesWorld_at_old w e s j hj⟩
theorem int_said : IntSaid Tabs2 := fun s w hs hT => by
  cases hp : Lib.parseIntB 64 s.data.toList with
  | ok v =>
    refine (Any.strconv_ParseInt_10_at64_ok Tryz.laysParseInt s (by omega) v hp w).mono ?_
    rintro e w' ⟨rfl, hb⟩
    refine ⟨?_, Or.inl ⟨v, rfl, rfl⟩⟩
    rcases hb with rfl | ⟨x, rfl⟩
    · exact Below.refl _ _
    · refine (Below.refl w.heap.size w).trans ?_
      exact below_bytes w _ x
  | «syntax» =>
    obtain ⟨te, pe, he⟩ := hT.2.1
    refine (Any.strconv_ParseInt_10_at64_syntax Tryz.laysParseInt s (by omega) hp (.iface te pe) w he (Or.inr ⟨te, pe, rfl⟩)).mono ?_
    rintro e w' ⟨N, rfl, _, _, hb⟩
    exact ⟨hb, Or.inr ⟨Or.inl rfl, _, _, _, rfl⟩⟩
  | range =>
    obtain ⟨te, pe, he⟩ := hT.2.2.1
    refine (Any.strconv_ParseInt_10_at64_range Tryz.laysParseInt s (by omega) hp (.iface te pe) w he (Or.inr ⟨te, pe, rfl⟩)).mono ?_
    rintro e w' ⟨N, rfl, _, _, hb⟩
    exact ⟨hb, Or.inr ⟨Or.inr rfl, _, _, _, rfl⟩⟩

theorem valid_said : ValidSaid Tabs2 := fun s w hs hT => Any.utf8_ValidString Tryz.laysValid s w hs hT.1
theorem fmt_said : FmtSaid Tabs2 := fun n w h0 h1 hT => by
  refine (Any.strconv_FormatInt_10 Tryz.laysFormat n h0 h1 w hT.2.2.2).mono ?_
  rintro e w' ⟨rfl, k, os, rfl⟩
  exact ⟨rfl, Lib.below_grow _ _ (Nat.le_refl _) _ _⟩

theorem own_knob : ownKnob Tryz.prog.godebug = none := by kernel_rfl
def litCells : DataW Unit → List Value
  | .agg l => l.map fun | .lit (.int k n) => Value.int k n | _ => .nilIface
  | _ => []
abbrev synS : ByteArray := ⟨#[105, 110, 118, 97, 108, 105, 100, 32, 115, 121, 110, 116, 97, 120]⟩
abbrev rngS : ByteArray := ⟨#[118, 97, 108, 117, 101, 32, 111, 117, 116, 32, 111, 102, 32, 114, 97, 110, 103, 101]⟩
def setB (h : Array Obj) (g : Nat) (cs : List Value) : Array Obj := h.modify g fun | .cells _ t frozen => .cells cs.toArray t frozen | o => o
noncomputable def lowB : Nat := (World.holding Tryz.prog default ⟨#[], #[], []⟩).heap.size
noncomputable def laidW (os : Os) : World :=
  { World.holding Tryz.prog os ⟨#[.cells #[.string synS] 328, .cells #[.string rngS] 328], #[], []⟩ with
    heap := setB (setB (setB (setB (setB (setB (setB (World.holding Tryz.prog os ⟨#[.cells #[.string synS] 328, .cells #[.string rngS] 328], #[], []⟩).heap
      0 (Lib.firstTab.map fun z => Value.int .u8 z)) 1 ((List.range 16).flatMap fun i => [Value.int .u8 (Lib.accLo i), Value.int .u8 (Lib.accHi i)]))
      2 (litCells Rows.laid_internal_strconv_uint64pow10)) 3 (litCells Rows.laid_math_bits_deBruijn32tab)) 4 (litCells Rows.laid_math_bits_deBruijn64tab))
      5 [.iface 326 (.pointer (some ⟨lowB, 0, none⟩))]) 6 [.iface 326 (.pointer (some ⟨lowB + 1, 0, none⟩))] }
abbrev laidL : List (String × DataW Unit) := Rows.printsRow.laid
theorem laid_met (os : Os) (args : Array Value) : laidMet Tryz.prog laidL ((laidW os).forCall (fun _ _ => 0) ⟨#[], args, []⟩).memory :=
  (LaidIn.of_run (l := laidL) (List.range 40) 8 (by kernel_rfl) (by kernel_rfl) (by kernel_rfl) (by kernel_rfl)).met
theorem first_data : Rows.laid_unicode_utf8_first = Lib.firstData := by kernel_rfl
theorem accept_data : (Rows.laid_unicode_utf8_acceptRanges : DataW Unit) = Lib.acceptData := by kernel_rfl
theorem star : "*" ++ "errors.errorString" = "*errors.errorString" := by decide
theorem row_err (u : TypeId) (h : Tryz.prog.typeName? 3 u = some "*errors.errorString") : u = 326 :=
  typeName_ptr_named (nm := "errors.errorString") (by rw [star]; kernel_rfl) (by kernel_rfl) (by decide) u (by rw [star]; exact h)
theorem err_of {n : String} {g : Nat} {text : List UInt8} {r : List (String × DataW Unit)} {W : World} (h : laidMet Tryz.prog ((n, .iface "*errors.errorString" (.ptr (.agg [.lit (.string text)]))) :: r) W)
    (hg : Tryz.prog.globalNamed n = some g) (ht : (Tryz.prog.globals[g]?).map (·.type) = some 116) : IsErr W g := by
  obtain ⟨a, s, hv, _⟩ := laid_sentinel h hg ht Tryz.underlying116 row_err Tryz.underlying326 Tryz.underlying328 rfl rfl Tryz.underlying9 (by kernel_rfl) (by kernel_rfl)
  exact ⟨_, _, by simpa using World.var?_cell hg hv 0⟩
theorem pow_data : (Rows.laid_internal_strconv_uint64pow10 : DataW Unit) = Lib.tabData .u64 Lib.pow10Tab := by kernel_rfl
theorem tabs_of {W : World} (hL : laidMetH Tryz.prog laidL W) : Tabs2 W := by
  have hM : laidMet Tryz.prog laidL W := hL
  have h1 := Lib.laidMet.reads hL (.tail _ (.tail _ (.tail _ (.head _))))
  have h2 := Lib.laidMet.reads hL (.tail _ (.tail _ (.tail _ (.tail _ (.tail _ (.tail _ (.head _)))))))
  rw [accept_data] at h1
  rw [first_data] at h2
  have hr := hM.tail.tail.tail.tail
  refine ⟨utf8Tabs_of_readsT (U8Types.of260 { Tryz.laysDecode with }) ⟨by kernel_rfl, by kernel_rfl, by kernel_rfl, by kernel_rfl, by kernel_rfl, by kernel_rfl, by kernel_rfl⟩ h2 h1, err_of hr.tail (by kernel_rfl) (by kernel_rfl), err_of hr (by kernel_rfl) (by kernel_rfl), ?_⟩
  have hp : laidMet Tryz.prog (("internal/strconv.uint64pow10", Rows.laid_internal_strconv_uint64pow10) :: laidL.tail.tail.tail) W := hM.tail.tail
  rw [pow_data] at hp
  exact Lib.tabIs_of_head (g := 2) (by kernel_rfl) (by kernel_rfl) Tryz.underlying215 Tryz.underlying127 (by kernel_rfl) (by kernel_rfl) hp
theorem and_mk {a b : Bool} (h : a = true) (k : b = true) : (a && b) = true := by rw [h, k]; rfl
theorem jf1 : (laidOutB Tryz.pinned.checked.prog) = true := by kernel_rfl
theorem jf2 : (mapsRowed Tryz.pinned.checked.prog) = true := by kernel_rfl
theorem jf6 : ((Tryz.pinned.checked.prog.stops == [])) = true := by kernel_rfl
theorem jf8 : ((Tryz.pinned.checked.prog.stopKnobs == [])) = true := by kernel_rfl
theorem jf24 : (Tryz.pinned.checked.prog.stopsHeard) = true := by kernel_rfl
theorem jf25 : (Tryz.pinned.checked.prog.mayEnter) = true := by kernel_rfl
end Go.Proofs.YtknakfpciccoaaaGreatDoor
