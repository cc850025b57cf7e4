/- What is read of an argument: a tree, and where it lies. -/
import Derived.Test.YtknakfpciccoaaaDoorB
import Derived.Test.YtknakfpciccoaaaDoorProg
import Derived.Deep.Strs
import Derived.SizedLaws
import Derived.ProofKit
import Derived.OpenShut
namespace Go.Proofs.YtknakfpciccoaaaDoor
open Go.ChangeShapes Go.WideShapes Go.ChangeAt Go.RowKit Go.Deep

theorem under25 : ∃ f0 f1 f2 f3 f4 : Field, Tryd.prog.underlying 26 = some (.struct #[f0, f1, f2, f3, f4]) ∧ (f0.type = 3 ∧ f0.offset = 0) ∧ (f1.type = 2 ∧ f1.offset = 1) ∧ (f2.type = 9 ∧ f2.offset = 2) ∧ (f3.type = 23 ∧ f3.offset = 3) ∧ (f4.type = 24 ∧ f4.offset = 4) := by
  exact ⟨_, _, _, _, _, Tryd.underlying26, ⟨rfl, rfl⟩, ⟨rfl, rfl⟩, ⟨rfl, rfl⟩, ⟨rfl, rfl⟩, ⟨rfl, rfl⟩⟩
theorem cells26 : Tryd.prog.cellsOf 26 = 5 := by kernel_rfl
theorem cells3 : Tryd.prog.cellsOf 3 = 1 := by kernel_rfl
theorem cells2 : Tryd.prog.cellsOf 2 = 1 := by kernel_rfl
theorem cells9 : Tryd.prog.cellsOf 9 = 1 := by kernel_rfl
theorem cells23 : Tryd.prog.cellsOf 23 = 1 := by kernel_rfl
theorem cells24 : Tryd.prog.cellsOf 24 = 1 := by kernel_rfl
theorem bytes26 : Tryd.prog.bytesOf 26 = 80 := by kernel_rfl
theorem bytes9 : Tryd.prog.bytesOf 9 = 16 := by kernel_rfl
section
variable {H : Type} {enc : TypeId × Value → H} {W : World}
set_option maxRecDepth 100000 in
theorem trod5 {fuel : Nat} {cs : List Value} {x : DataW H × List MemPlace} (h : DataW.trod enc Tryd.prog W 0 (fun _ => true) true fuel 26 cs = some x) :
    ∃ c0 c1 c2 c3 c4 y0 y1 y2 y3 y4 n, fuel = n + 1 ∧ cs = [c0, c1, c2, c3, c4] ∧ x = (.agg [y0.1, y1.1, y2.1, y3.1, y4.1], y0.2 ++ (y1.2 ++ (y2.2 ++ (y3.2 ++ y4.2)))) ∧
      DataW.trod enc Tryd.prog W 0 (fun _ => true) true n 3 [c0] = some y0 ∧ DataW.trod enc Tryd.prog W 0 (fun _ => true) true n 2 [c1] = some y1 ∧ DataW.trod enc Tryd.prog W 0 (fun _ => true) true n 9 [c2] = some y2 ∧ DataW.trod enc Tryd.prog W 0 (fun _ => true) true n 23 [c3] = some y3 ∧ DataW.trod enc Tryd.prog W 0 (fun _ => true) true n 24 [c4] = some y4 := by
  obtain ⟨f0, f1, f2, f3, f4, hu, ⟨a0, b0⟩, ⟨a1, b1⟩, ⟨a2, b2⟩, ⟨a3, b3⟩, ⟨a4, b4⟩⟩ := under25
  obtain ⟨xs, n, hn, rfl, hl, hlen, hf⟩ := DataW.trod_struct hu h
  rw [cells26] at hl
  match cs, hl, xs, hlen with
  | [c0, c1, c2, c3, c4], _, [y0, y1, y2, y3, y4], _ =>
    refine ⟨c0, c1, c2, c3, c4, y0, y1, y2, y3, y4, n, hn, rfl, by simp, ?_, ?_, ?_, ?_, ?_⟩
    · have := hf 0 f0 rfl; rw [a0, b0, cells3] at this; simpa using this
    · have := hf 1 f1 rfl; rw [a1, b1, cells2] at this; simpa using this
    · have := hf 2 f2 rfl; rw [a2, b2, cells9] at this; simpa using this
    · have := hf 3 f3 rfl; rw [a3, b3, cells23] at this; simpa using this
    · have := hf 4 f4 rfl; rw [a4, b4, cells24] at this; simpa using this
theorem At.more : ∀ {f : Nat} {v : Value} {t : T}, At W f v t → At W (f + 1) v t := by
  intro f
  induction f with
  | zero => intro v t h; exact h.elim
  | succ f ih =>
    rintro v t ⟨La, Ka, Lc, Kc, rfl, hf, hl, hk⟩
    refine ⟨La, Ka, Lc, Kc, rfl, hf, fun i hi => ?_, hk⟩
    obtain ⟨b, o, c0, c1, c2, c3, c4, h0, hb, q0, q1, q2, q3, q4, ha⟩ := hl i hi
    exact ⟨b, o, c0, c1, c2, c3, c4, h0, hb, q0, q1, q2, q3, q4, ih ha⟩
theorem addr_spot {a : Addr} {v : Value} (h : W.cell? a = some v) : a = ⟨a.block, a.off, none⟩ := by
  have := World.cell?_spot h
  cases a
  simp only at this
  rw [this]
theorem lt_of_cell {a : Addr} {v : Value} (h : W.cell? a = some v) : a.block < W.heap.size := by
  rcases Nat.lt_or_ge a.block W.heap.size with h' | h'
  · exact h'
  · simp [World.cell?, Array.getElem?_eq_none h'] at h
/-- The names. -/
theorem names_of {fuel : Nat} {c4 : Value} {y : DataW H × List MemPlace} (h : DataW.trod enc Tryd.prog W 0 (fun _ => true) true fuel 24 [c4] = some y) (hw : ∀ n ∈ y.1.weights Tryd.prog 24, n ≤ reachBytes) :
    ∃ (Ka : Option Addr) (Kc : Nat) (ks : List ByteArray), c4 = .slice Ka ks.length Kc ∧ ks.length ≤ 8796093022208 ∧ ∀ i, i < ks.length → ∃ b o, Ka = some ⟨b, o, none⟩ ∧ b < W.heap.size ∧ (ks.getD i ByteArray.empty).size ≤ 140737488355328 ∧ W.cell? ⟨b, o + i, none⟩ = some (.string (ks.getD i ByteArray.empty)) := by
  rcases open_strs Tryd.underlying24 Tryd.underlying9 cells9 h with ⟨hc, rfl⟩ | ⟨a, len, cap, m, Sx, hc, _, hl, _, hm, rfl, hcell⟩
  · simp only [List.cons.injEq, and_true] at hc
    exact ⟨none, 0, [], hc, by simp, fun i hi => absurd hi (Nat.not_lt_zero _)⟩
  · simp only [List.cons.injEq, and_true] at hc
    simp only [if_true] at hm
    subst hm
    have hlen : ((List.range len).map Sx).length = len := by simp
    refine ⟨some a, m, (List.range len).map Sx, by rw [hlen]; exact hc, ?_, fun i hi => ?_⟩
    · have := hw (((List.range len).map fun i => (DataW.lit (.string (Sx i).data.toList) : DataW H)).length * 16 + ((List.range (m - len)).map fun j => (DataW.lit (.string (Sx (len + j)).data.toList) : DataW H)).length * 16) (by
          simp only [DataW.weights, Tryd.underlying24, bytes9]
          rw [Nat.add_mul]
          exact List.mem_cons_self ..)
      rw [hlen]
      simp only [List.length_map, List.length_range, reachBytes] at this
      omega
    · rw [hlen] at hi
      obtain ⟨h1, _⟩ := hcell i (by omega)
      obtain ⟨h0, _⟩ := hcell 0 (by omega)
      have ha : a = ⟨a.block, a.off, none⟩ := by
        have := addr_spot h0
        simpa [Addr.add] using this
      have e : ((List.range len).map Sx).getD i ByteArray.empty = Sx i := by simp [List.getD, hi]
      rw [e]
      refine ⟨a.block, a.off, by rw [← ha], ?_, ?_, ?_⟩
      · have := lt_of_cell h0
        simpa [Addr.add] using this
      · have := hw (Sx i).data.toList.length (by
          simp only [DataW.weights, Tryd.underlying24]
          apply List.mem_cons_of_mem
          apply List.mem_append_left
          have hmem : (DataW.lit (.string (Sx i).data.toList) : DataW H) ∈ (List.range len).map fun i => (DataW.lit (.string (Sx i).data.toList) : DataW H) := List.mem_map.2 ⟨i, List.mem_range.2 hi, rfl⟩
          have all : ∀ (l : List (DataW H)) (d : DataW H), d ∈ l → ∀ n ∈ d.weights Tryd.prog 9, n ∈ DataW.weightsAll Tryd.prog 9 l := by
            intro l
            induction l with
            | nil => intro d hd; cases hd
            | cons x r ih =>
              intro d hd n hn
              simp only [DataW.weightsAll, List.mem_append]
              rcases List.mem_cons.1 hd with rfl | hd
              · exact Or.inl hn
              · exact Or.inr (ih d hd n hn)
          exact all _ _ hmem _ (by simp [DataW.weights]))
        have hz : (Sx i).size = (Sx i).data.toList.length := rfl
        simp only [reachBytes] at this
        omega
      · rw [ha, add_plain] at h1
        exact h1
theorem weightsAll_mem {e : TypeId} : ∀ (l : List (DataW H)) (d : DataW H), d ∈ l → ∀ n ∈ d.weights Tryd.prog e, n ∈ DataW.weightsAll Tryd.prog e l := by
  intro l
  induction l with
  | nil => intro d hd; cases hd
  | cons x r ih =>
    intro d hd n hn
    simp only [DataW.weightsAll, List.mem_append]
    rcases List.mem_cons.1 hd with rfl | hd
    · exact Or.inl hn
    · exact Or.inr (ih d hd n hn)
set_option maxRecDepth 100000 in
/-- The values. -/
theorem values_of {n : Nat} (ih : ∀ (m : Nat), m < n → ∀ (cs : List Value) (x : DataW H × List MemPlace), DataW.trod enc Tryd.prog W 0 (fun _ => true) true m 26 cs = some x → (∀ k ∈ x.1.weights Tryd.prog 26, k ≤ reachBytes) → ∃ t, At W m (.agg cs.toArray) t)
    {c3 : Value} {y : DataW H × List MemPlace} (h : DataW.trod enc Tryd.prog W 0 (fun _ => true) true n 23 [c3] = some y) (hw : ∀ k ∈ y.1.weights Tryd.prog 23, k ≤ reachBytes) :
    ∃ (La : Option Addr) (Lc : Nat) (l : List T), c3 = .slice La l.length Lc ∧ l.length ≤ 1759218604442 ∧ ∀ i, i < l.length → ∃ b o c0 c1 c2 c3 c4, La = some ⟨b, o, none⟩ ∧ b < W.heap.size ∧ W.cell? ⟨b, o + i * 5, none⟩ = some c0 ∧ W.cell? ⟨b, o + i * 5 + 1, none⟩ = some c1 ∧ W.cell? ⟨b, o + i * 5 + 2, none⟩ = some c2 ∧ W.cell? ⟨b, o + i * 5 + 3, none⟩ = some c3 ∧ W.cell? ⟨b, o + i * 5 + 4, none⟩ = some c4 ∧ At W n (.agg #[c0, c1, c2, c3, c4]) (l.getD i .nil) := by
  rcases DataW.trod_slice Tryd.underlying23 h with ⟨hc, rfl⟩ | ⟨a, len, cap, elems, rest, m, hn, hc, rfl, _, hl, _, hlen, hel, _, _⟩
  · simp only [List.cons.injEq, and_true] at hc
    exact ⟨none, 0, [], hc, by simp, fun i hi => absurd hi (Nat.not_lt_zero _)⟩
  · simp only [List.cons.injEq, and_true] at hc
    have hkids : ∀ i, i < len → ∃ t : T, ∃ c0 c1 c2 c3 c4, a = ⟨a.block, a.off, none⟩ ∧ a.block < W.heap.size ∧ W.cell? ⟨a.block, a.off + i * 5, none⟩ = some c0 ∧ W.cell? ⟨a.block, a.off + i * 5 + 1, none⟩ = some c1 ∧ W.cell? ⟨a.block, a.off + i * 5 + 2, none⟩ = some c2 ∧ W.cell? ⟨a.block, a.off + i * 5 + 3, none⟩ = some c3 ∧ W.cell? ⟨a.block, a.off + i * 5 + 4, none⟩ = some c4 ∧ At W n (.agg #[c0, c1, c2, c3, c4]) t := by
      intro i hi
      have he := hel i hi
      rw [cells26] at he
      have hi2 : i < elems.length := by omega
      rw [List.getElem?_eq_getElem hi2] at he
      obtain ⟨cs, hcs, htr⟩ := Option.bind_eq_some_iff.1 he
      obtain ⟨_, hcl, hcell⟩ := World.cells?_some hcs
      have hwk : ∀ k ∈ (elems[i]).1.weights Tryd.prog 26, k ≤ reachBytes := by
        intro k hk
        apply hw
        simp only [DataW.weights, Tryd.underlying23]
        apply List.mem_cons_of_mem
        apply List.mem_append_left
        exact weightsAll_mem _ _ (List.mem_map.2 ⟨elems[i], List.getElem_mem hi2, rfl⟩) _ hk
      obtain ⟨t, ht⟩ := ih m (by omega) cs _ htr hwk
      obtain ⟨c0, c1, c2, c3, c4, y0, y1, y2, y3, y4, n', _, rfl, _⟩ := trod5 htr
      have e0 := hcell 0 (by omega)
      have e1 := hcell 1 (by omega)
      have e2 := hcell 2 (by omega)
      have e3 := hcell 3 (by omega)
      have e4 := hcell 4 (by omega)
      simp only [List.getElem?_cons_zero, List.getElem?_cons_succ] at e0 e1 e2 e3 e4
      have ha : a = ⟨a.block, a.off, none⟩ := by
        by_cases h0 : i = 0
        · subst h0
          have := addr_spot e0
          simpa [Addr.add] using this
        · obtain ⟨cs0, hcs0, htr0⟩ : ∃ cs0, W.cells? 0 (a.add (0 * 5)) 5 = some cs0 ∧ True := by
            have he0 := hel 0 (by omega)
            rw [cells26, List.getElem?_eq_getElem (by omega)] at he0
            obtain ⟨cs0, h1, _⟩ := Option.bind_eq_some_iff.1 he0
            exact ⟨cs0, h1, trivial⟩
          obtain ⟨_, hcl0, hcell0⟩ := World.cells?_some hcs0
          have g0 := hcell0 0 (by omega)
          rw [List.getElem?_eq_getElem (by omega)] at g0
          have := addr_spot g0
          simpa [Addr.add] using this
      rw [ha, add_plain, add_plain] at e0 e1 e2 e3 e4
      refine ⟨t, c0, c1, c2, c3, c4, ha, ?_, e0, e1, e2, e3, e4, ?_⟩
      · exact lt_of_cell (a := ⟨a.block, _, none⟩) e0
      · have hmn : ∃ j, n = m + 1 + j := ⟨0, by omega⟩
        rw [hn]
        exact At.more ht
    obtain ⟨f, hf⟩ := choose_lt (α := T) hkids
    have hfl : ((List.range len).map f).length = len := by simp
    refine ⟨some a, cap, (List.range len).map f, by rw [hfl]; exact hc, ?_, fun i hi => ?_⟩
    · have := hw ((elems.map (·.1)).length * 80 + (rest.map (·.1)).length * 80) (by
          simp only [DataW.weights, Tryd.underlying23, bytes26]
          rw [Nat.add_mul]
          exact List.mem_cons_self ..)
      rw [hfl]
      simp only [List.length_map, reachBytes] at this
      omega
    · rw [hfl] at hi
      obtain ⟨c0, c1, c2, c3, c4, ha, hb, q0, q1, q2, q3, q4, hat⟩ := hf i hi
      have e : ((List.range len).map f).getD i .nil = f i := by simp [List.getD, hi]
      rw [e]
      exact ⟨a.block, a.off, c0, c1, c2, c3, c4, by rw [← ha], hb, q0, q1, q2, q3, q4, hat⟩
theorem weights26 (d0 d1 d2 d3 d4 : DataW H) : (DataW.agg [d0, d1, d2, d3, d4] : DataW H).weights Tryd.prog 26 = d0.weights Tryd.prog 3 ++ (d1.weights Tryd.prog 2 ++ (d2.weights Tryd.prog 9 ++ (d3.weights Tryd.prog 23 ++ (d4.weights Tryd.prog 24 ++ [])))) := by
  simp only [DataW.weights, Tryd.underlying26]
  rfl
/-- WHAT IS READ AS A VALUE LIES IN MEMORY AS A TREE. -/
theorem at_of_trod : ∀ (fuel : Nat) (cs : List Value) (x : DataW H × List MemPlace), DataW.trod enc Tryd.prog W 0 (fun _ => true) true fuel 26 cs = some x → (∀ k ∈ x.1.weights Tryd.prog 26, k ≤ reachBytes) → ∃ t, At W fuel (.agg cs.toArray) t := by
  intro fuel
  induction fuel using Nat.strongRecOn with
  | _ fuel ih =>
    intro cs x h hw
    obtain ⟨c0, c1, c2, c3, c4, y0, y1, y2, y3, y4, n, hn, rfl, rfl, h0, h1, h2, h3, h4⟩ := trod5 h
    rw [weights26] at hw
    obtain ⟨k, e0, _, w0⟩ := DataW.trod_int Tryd.underlying3 h0
    obtain ⟨m, e1, _, w1⟩ := DataW.trod_int Tryd.underlying2 h1
    obtain ⟨s, e2, r2, w2⟩ := DataW.trod_string Tryd.underlying9 h2
    obtain ⟨Ka, Kc, ks, rfl, hk1, hk2⟩ := names_of h4 (fun k hk => hw k (by simp [hk]))
    obtain ⟨La, Lc, l, rfl, hl1, hl2⟩ := values_of (n := n) (fun m hm cs x h1 h2 => ih m (by omega) cs x h1 h2) h3 (fun k hk => hw k (by simp [hk]))
    simp only [List.cons.injEq, and_true] at e0 e1 e2
    subst e0 e1 e2
    have hs : s.size ≤ 140737488355328 := by
      have := hw s.data.toList.length (by rw [r2]; simp [DataW.weights])
      have hz : s.size = s.data.toList.length := rfl
      simp only [reachBytes] at this
      omega
    have b0 : -9223372036854775808 ≤ k ∧ k ≤ 9223372036854775807 := by have := bounds_i64 w0; omega
    have b1 : -9223372036854775808 ≤ m ∧ m ≤ 9223372036854775807 := by have := bounds_i64 w1; omega
    have eK : kOf (mkT k m s l ks) = ks := kOf_mk _ _ _ _ _
    refine ⟨mkT k m s l ks, ?_⟩
    rw [hn]
    refine ⟨La, Ka, Lc, Kc, ?_, ⟨b0.1, b0.2, b1.1, b1.2, hs, hl1, ?_⟩, ?_, ?_⟩
    · unfold nK; rw [eK]; rfl
    · unfold nK; rw [eK]; exact hk1
    · exact hl2
    · intro i hi
      unfold nK at hi
      rw [eK] at hi
      unfold nam
      rw [eK]
      exact hk2 i hi
end
end Go.Proofs.YtknakfpciccoaaaDoor
