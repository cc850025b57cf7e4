/- For every three lists of numbers that can be read, sheafkeep.Chained returns true: of a store that is filled out of the first, two pipelines, made out of the other two, one behind the other, do what they do as one. Its conditions: those of the given card. -/
import Derived.Test.YtknakfpciccoaaaGreatDoorCards
import Derived.Test.YtknakfpciccoaaaGreatDoorTie
import Derived.Test.YtknakfpciccoaaaGreatDoorZC40
import Derived.Test.YtknakfpciccoaaaGreatDoorZC43
import Derived.Lib.AppendIntMem
import Derived.Lib.LaidTab
import Derived.Stop.LaidErr
import Derived.ChangeMaps5
import Derived.Lib.LaidIn
import Derived.Lib.LaidU8T
import Derived.Deep.DeepHandedRow
import Derived.Deep.DeepWitnessRowRef
import Derived.ProofKit
import Derived.SizedLaws
import Derived.OpenShut
import Derived.Test.YtknakfpciccoaaaGreatDoorZC41
namespace Go.Proofs.YtknakfpciccoaaaGreatDoor
open Go.ChangeShapes Go.WideShapes Go.ChangeAt Go.RowKit Go.Lib Go.Shelf
open Go.ChangeMaps (open_string shut_string)

theorem Mh (os : Os) {H : Type} (enc : TypeId × Value → H) :
    (OpenSpec.ofChange Rows.chainedSpec).preRow enc Tryz.prog Tryz.f10 Rows.chainedRow.domain false Rows.chainedRow.laid ((xM os).forCall (fun _ _ => 0) ⟨#[], #[.slice none 0 0, .slice none 0 0, .slice none 0 0], []⟩).memory #[.slice none 0 0, .slice none 0 0, .slice none 0 0] := by
  have hw : (DataW.whole enc Tryz.prog ((xM os).forCall (fun _ _ => 0) ⟨#[], #[.slice none 0 0, .slice none 0 0, .slice none 0 0], []⟩).memory Tryz.f10.params.toList (OpenSpec.ofChange Rows.chainedSpec).vars false #[Value.slice none 0 0, .slice none 0 0, .slice none 0 0].toList 8).map (fun x => (x.1, x.2.1)) =
      some ([DataW.nil, .nil, .nil], []) := by kernel_rfl
  obtain ⟨⟨x1, x2, x3⟩, hx, hx1⟩ := Option.map_eq_some_iff.1 hw
  simp only [Prod.mk.injEq] at hx1
  obtain ⟨rfl, rfl⟩ := hx1
  exact OpenSpec.preRow_of_cond 8 hx (by kernel_rfl) (fun k hk => by cases hk) (by kernel_rfl) (Yg os _)
set_option maxHeartbeats 2000000 in
set_option maxRecDepth 100000 in
theorem Ym (H : Type) (enc : TypeId × Value → H) (W : World) (base : Nat) (args : Array Value) (ds gs : List (DataW H)) (before : List MemPlace)
    (hval : ∀ (j : Nat) t v, Tryz.f10.params[j]? = some t → args[j]? = some v → Value.okWide Tryz.prog W .any base t v)
    (hW : DataW.Whole enc Tryz.prog Tryz.f10.params.toList Rows.chainedSpec.vars false W args.toList ds gs before)
    (hsz : (DataW.weightsEach Tryz.prog (Tryz.f10.params.toList ++ (OpenSpec.ofChange Rows.chainedSpec).bare.plain.varTypes Tryz.prog) (ds ++ gs)).all (· ≤ reachBytes) = true)
    (hL : laidMetH Tryz.prog Rows.chainedRow.laid W) (hS : W.ShapedOpen Tryz.prog) :
    Calls Tryz.prog 10 args W fun e W' => ∃ v, e = .returned v ∧ Rows.chainedSpec.post enc Tryz.prog Tryz.f10 false true false false W args v W' := by
  have hW' := hW
  obtain ⟨p, q, hA0, hV, rfl, hfz, hnd⟩ := hW
  have hA : DataW.TrodAll enc Tryz.prog W 0 (fun _ => true) true Tryz.f10.params.toList args.toList ds p := hA0
  rw [Tryz.params10] at hA hval
  obtain ⟨v0, vs0, d0, ds0, p0, q0, hargs, rfl, rfl, h0, r0⟩ := trodAll_cons hA
  obtain ⟨v1, vs1, d1, ds1, p1, q1, rfl, rfl, rfl, h1, r1⟩ := trodAll_cons r0
  obtain ⟨v2, vs2, d2, ds2, p2, q2, rfl, rfl, rfl, h2, r2⟩ := trodAll_cons r1
  obtain ⟨rfl, rfl, rfl⟩ := trodAll_nil r2
  obtain rfl : args = #[v0, v1, v2] := by cases args; simp_all
  obtain ⟨rfl, rfl⟩ := trodVars_none hV
  obtain ⟨sa, sl, sc, rfl⟩ := okWide_slice Tryz.underlying43 (hval 0 43 v0 rfl rfl)
  obtain ⟨sb, sm, sd, rfl⟩ := okWide_slice Tryz.underlying43 (hval 1 43 v1 rfl rfl)
  obtain ⟨se, sn, sf, rfl⟩ := okWide_slice Tryz.underlying43 (hval 2 43 v2 rfl rfl)
  clear hA0
  have hl0 : ∀ x ∈ p0, x.block < W.heap.size := fun x hx => hW'.lt x (by simp [hx])
  have hl1 : ∀ x ∈ p1, x.block < W.heap.size := fun x hx => hW'.lt x (by simp [hx])
  have hl2 : ∀ x ∈ p2, x.block < W.heap.size := fun x hx => hW'.lt x (by simp [hx])
  have g0 := h0
  have g1 := h1
  have g2 := h2
  obtain ⟨f0, t0⟩ := h0
  obtain ⟨f1, t1⟩ := h1
  obtain ⟨f2, t2⟩ := h2
  have ws : ∀ k ∈ DataW.weightsEach Tryz.prog (Tryz.f10.params.toList ++ (OpenSpec.ofChange Rows.chainedSpec).bare.plain.varTypes Tryz.prog) ([d0, d1, d2] ++ []), k ≤ reachBytes := fun k hk => of_decide_eq_true (List.all_eq_true.1 hsz k hk)
  have hp : (Tryz.f10.params.toList ++ (OpenSpec.ofChange Rows.chainedSpec).bare.plain.varTypes Tryz.prog)[0]? = some 43 ∧ (Tryz.f10.params.toList ++ (OpenSpec.ofChange Rows.chainedSpec).bare.plain.varTypes Tryz.prog)[1]? = some 43 ∧ (Tryz.f10.params.toList ++ (OpenSpec.ofChange Rows.chainedSpec).bare.plain.varTypes Tryz.prog)[2]? = some 43 := by rw [Tryz.params10]; exact ⟨rfl, rfl, rfl⟩
  obtain ⟨n0, hn0⟩ := Pv (enc := enc) (show DataW.trod enc Tryz.prog W 0 (fun _ => true) true f0 43 [.slice sa sl sc] = some (d0, p0) by simpa [Value.cells] using t0) (fun k hk => ws k (DataW.weights_mem_each (j := 0) hp.1 rfl k hk))
  obtain ⟨n1, hn1⟩ := Pv (enc := enc) (show DataW.trod enc Tryz.prog W 0 (fun _ => true) true f1 43 [.slice sb sm sd] = some (d1, p1) by simpa [Value.cells] using t1) (fun k hk => ws k (DataW.weights_mem_each (j := 1) hp.2.1 rfl k hk))
  obtain ⟨n2, hn2⟩ := Pv (enc := enc) (show DataW.trod enc Tryz.prog W 0 (fun _ => true) true f2 43 [.slice se sn sf] = some (d2, p2) by simpa [Value.cells] using t2) (fun k hk => ws k (DataW.weights_mem_each (j := 2) hp.2.2 rfl k hk))
  refine (Mf Pt (.slice sa sl sc) (.slice sb sm sd) (.slice se sn sf) n0 n1 n2 W hn0 hn1 hn2 (Yj hL hS)).mono fun e W' ⟨he, hbel⟩ => ?_
  subst he
  have e1 : Rows.chainedSpec.fn H ([d0, d1, d2] ++ []) = { results := [.lit (.bool true)], args := [d0, d1, d2] } := rfl
  have l0 : laidOutB Tryz.prog = true := by kernel_rfl
  have l1 : Tryz.prog.readableRec 43 = true := by kernel_rfl
  have l2 : 43 < Tryz.prog.types.size := of_decide_eq_true (by kernel_rfl)
  have k0 := Below.trod l0 l1 l2 g0 hbel hl0
  have k1 := Below.trod l0 l1 l2 g1 hbel hl1
  have k2 := Below.trod l0 l1 l2 g2 hbel hl2
  refine ⟨_, rfl, _, _, _, [], p0 ++ (p1 ++ p2), [], by simpa using hW', ?_, ?_, ?_, hbel.frame _, fun h => by cases h⟩
  · rw [e1]; exact trodAll_mk1 (shut_bool Tryz.underlying4 _)
  · rw [e1]; rw [Tryz.params10]
    have := trodAll_cons_mk k0 (trodAll_cons_mk k1 (trodAll_cons_mk k2 trodAll_mk0))
    simpa using this
  · rw [e1]; rfl
theorem adF (os : Os) : (xM os).os = os := rfl
theorem adG (os : Os) : ((xM os).forCall (fun _ _ => 0) ⟨#[], #[.slice none 0 0, .slice none 0 0, .slice none 0 0], []⟩).variablesRefB Tryz.checked.prog = true := by kernel_rfl
theorem adH (os : Os) : (((xM os).forCall (fun _ _ => 0) ⟨#[], #[.slice none 0 0, .slice none 0 0, .slice none 0 0], []⟩).heap.toList.drop Tryz.checked.prog.globals.size).take ((begin Tryz.checked.prog (fun _ _ => 0) default).world.heap.size - Tryz.checked.prog.globals.size) = (begin Tryz.checked.prog (fun _ _ => 0) default).world.heap.toList.drop Tryz.checked.prog.globals.size := by kernel_rfl
theorem adI (os : Os) : Input.okWideB Tryz.checked.prog ((xM os).forCall (fun _ _ => 0) ⟨#[], #[.slice none 0 0, .slice none 0 0, .slice none 0 0], []⟩) 10 ⟨#[], #[.slice none 0 0, .slice none 0 0, .slice none 0 0], []⟩ = true := by kernel_rfl
theorem aat : Tryz.checked.prog.inits.idxOf? 10 = none := by kernel_rfl
theorem aau (os : Os) (H : Type) (enc : TypeId × Value → H) : (OpenSpec.ofChange Rows.chainedSpec).preRow enc Tryz.checked.prog Tryz.f10 Rows.chainedRow.domain false Rows.chainedRow.laid ((xM os).forCall (fun _ _ => 0) ⟨#[], #[.slice none 0 0, .slice none 0 0, .slice none 0 0], []⟩).memory #[.slice none 0 0, .slice none 0 0, .slice none 0 0] := Mh os enc
set_option maxHeartbeats 2000000 in
set_option maxRecDepth 100000 in
theorem lifted (os : Os) (started : os.Started) (H : Type) (enc : TypeId × Value → H) (F : Stop.Interp) :
    ReturnsInHanded {} Tryz.checked os 10 .any ((OpenSpec.ofChange Rows.chainedSpec).preRow enc Tryz.prog Tryz.f10 Rows.chainedRow.domain false Rows.chainedRow.laid) (((OpenSpec.ofChange Rows.chainedSpec).at F).post enc Tryz.prog Tryz.f10 false true false false) := by
  refine returnsInHanded_of_row (C := Tryz.checked) (s := OpenSpec.ofChange Rows.chainedSpec) Yf started aat Tryz.func10
    (witness_row_atRef (enc := enc) (C := Tryz.checked) false (xM os) #[.slice none 0 0, .slice none 0 0, .slice none 0 0] (adF os) (adG os) (adH os) (adI os) (aau os H enc)) ?_
  intro W base args ds gs before hval hW _ _ hsz hL hS _
  exact Ym H enc W base args ds gs before hval hW hsz hL hS
theorem jf0 : (Rows.chainedRow.wf (OpenSpec.ofChange (OpenSpec.ofChange Rows.chainedSpec).bare)) = true := by kernel_rfl
theorem jf3 : (Tryz.f10.params.all (Tryz.pinned.checked.prog.readableRec ·)) = true := by kernel_rfl
theorem jf4 : (namedTie Tryz.pinned.checked.prog Rows.chainedRow.named (OpenSpec.ofChange Rows.chainedSpec).bare.vars) = true := by kernel_rfl
theorem jf5 : ((Rows.chainedRow.stops == [])) = true := by kernel_rfl
theorem jf7 : ((Rows.chainedRow.knobs == [])) = true := by kernel_rfl
theorem jf9 : ((Rows.chainedRow.inPlace == Tryz.pinned.checked.prog.inPlace 10)) = true := by kernel_rfl
theorem ai1 : ((Rows.chainedRow.unfollowed == Tryz.pinned.checked.prog.unfollowed 10)) = true := by kernel_rfl
theorem ai2 : ((Rows.chainedRow.recurses == Tryz.pinned.checked.prog.recurses 10)) = true := by kernel_rfl
theorem ai3 : ((Rows.chainedRow.named == Tryz.pinned.checked.prog.varsNamed 10)) = true := by kernel_rfl
theorem ai4 : ((Rows.chainedRow.maps == (Tryz.f10.params.toList ++ (OpenSpec.ofChange Rows.chainedSpec).bare.plain.varTypes Tryz.pinned.checked.prog).any (Tryz.pinned.checked.prog.mapsRec ·))) = true := by kernel_rfl
theorem ai5 : ((Rows.chainedRow.ifaces == (Tryz.f10.params.toList ++ (OpenSpec.ofChange Rows.chainedSpec).bare.plain.varTypes Tryz.pinned.checked.prog).any (Tryz.pinned.checked.prog.ifacesRec ·))) = true := by kernel_rfl
theorem ai6 : ((Rows.chainedRow.mapsOut == Tryz.pinned.checked.prog.mapsAmong Tryz.f10.resultTypes.toList)) = true := by kernel_rfl
theorem ai7 : ((Rows.chainedRow.loops == (Tryz.f10.params.toList ++ (OpenSpec.ofChange Rows.chainedSpec).bare.plain.varTypes Tryz.pinned.checked.prog).any (Tryz.pinned.checked.prog.loopsFrom ·))) = true := by kernel_rfl
theorem ai8 : ((Rows.chainedRow.wideKeys == (Tryz.f10.params.toList ++ (OpenSpec.ofChange Rows.chainedSpec).bare.plain.varTypes Tryz.pinned.checked.prog ++ Tryz.f10.resultTypes.toList).any (Tryz.pinned.checked.prog.wideKeysFrom ·))) = true := by kernel_rfl
theorem ai9 : ((OpenSpec.ofChange Rows.chainedSpec).bare.vars.all (Tryz.pinned.checked.prog.varReadable ·)) = true := by kernel_rfl
theorem aja : (Tryz.f10.resultTypes.all (fun t => Tryz.pinned.checked.prog.readableRec t && decide (t < Tryz.pinned.checked.prog.types.size))) = true := by kernel_rfl
theorem ajb : ((Rows.chainedRow.ifacesOut == Tryz.f10.resultTypes.toList.any (Tryz.pinned.checked.prog.ifacesRec ·))) = true := by kernel_rfl
theorem ajc : ((Rows.chainedRow.loopsOut == Tryz.f10.resultTypes.toList.any (Tryz.pinned.checked.prog.loopsFrom ·))) = true := by kernel_rfl
theorem ajd : ((Rows.chainedRow.plainKeys == Tryz.pinned.checked.prog.plainKeys)) = true := by kernel_rfl
theorem aje : (Rows.chainedRow.shortTexts.isNone) = true := by kernel_rfl
theorem ajf : ((Rows.chainedRow.lifted == Tryz.pinned.checked.prog.liftsFinal)) = true := by kernel_rfl
theorem ajg : ((Tryz.pinned.checked.prog.make == some Rows.chainedRow.make)) = true := by kernel_rfl
theorem ajh : ((Rows.chainedRow.kinds == (if Rows.chainedRow.domain.isEmpty then [] else Tryz.f10.params.toList.map fun t => match Tryz.pinned.checked.prog.underlying t with | some (.int k) => some k | _ => none))) = true := by kernel_rfl
theorem aji : ((Rows.chainedRow.pinned == Rows.chainedRow.pinnedBy)) = true := by kernel_rfl
theorem ajj : ((Rows.chainedRow.veiled == (Tryz.f10.params.toList ++ (OpenSpec.ofChange Rows.chainedSpec).bare.plain.varTypes Tryz.pinned.checked.prog ++ Tryz.f10.resultTypes.toList).any (Tryz.pinned.checked.prog.veiledRec ·))) = true := by kernel_rfl
theorem ajk : (Rows.chainedRow.veiledFits Tryz.pinned.checked.prog Tryz.f10.params.toList (Tryz.f10.params.toList ++ (OpenSpec.ofChange Rows.chainedSpec).bare.plain.varTypes Tryz.pinned.checked.prog ++ Tryz.f10.resultTypes.toList)) = true := by kernel_rfl
set_option maxHeartbeats 2000000 in
set_option maxRecDepth 100000 in
theorem adJ : joinedFacts Tryz.pinned.checked.prog 10 Tryz.f10 (OpenSpec.ofChange Rows.chainedSpec).bare Rows.chainedRow = true := by
  unfold joinedFacts
  exact dF (dF (dF (dF (dF (dF (dF (dF (dF (dF (dF (dF (dF (dF (dF (dF (dF (dF (dF (dF (dF (dF (dF (dF (dF (dF (dF (dF (dF (dF (dF jf0 jf1) jf2) jf3) jf4) jf5) jf6) jf7) jf8) jf9) ai1) ai2) ai3) ai4) ai5) ai6) ai7) ai8) ai9) aja) ajb) ajc) ajd) aje) aiZ) ai0) ajf) ajg) ajh) aji) ajj) ajk
theorem IU : Rows.ChainedSaid :=
  OpenClaim.holds_of_cond 10 Tryz.f10 rfl rfl rfl rfl rfl rfl rfl ⟨rfl, rfl, rfl, rfl, rfl⟩ rfl rfl rfl rfl rfl (by kernel_rfl) Tryz.func10 adJ
    (of_decide_eq_true (by kernel_rfl)) (by unfold Func.isWrapper; first | (rw [if_pos (by decide +kernel)]; kernel_rfl) | (rw [if_neg (by decide +kernel)]; exact ⟨rfl, rfl⟩))
    (fun os started H enc _ F => by rw [OpenClaim.pre_eq_preRow]; exact lifted os started H enc F)
theorem plain (f : FuncId) (fn : Func) (hf : Tryz.pinned.checked.prog.funcNamed Rows.chainedRow.func = some f) (hfn : Tryz.pinned.checked.prog.funcs[f]? = some fn) :
    true = Tryz.pinned.checked.prog.looks [] ∧ ∀ (j : Nat) t, fn.params[j]? = some t → Tryz.pinned.checked.prog.wantsStandIn t = false := by
  obtain rfl : f = 10 := Option.some.inj ((show Tryz.prog.funcNamed Rows.chainedRow.func = some 10 by kernel_rfl).symm.trans hf) |>.symm
  obtain rfl : fn = Tryz.f10 := (Option.some.inj (Tryz.func10.symm.trans hfn)).symm
  refine ⟨by kernel_rfl, fun j t ht => ?_⟩
  rw [Tryz.params10] at ht
  obtain rfl : t = 43 := by
    have := Array.mem_of_getElem? ht
    simp at this
    omega
  exact (show Tryz.prog.wantsStandIn 43 = false by kernel_rfl)
/-- THE CARD. -/
theorem chained_card : Rows.ChainedCardSaid :=
  Claim7.holds_tied_plain_at .later [] _ _ _ _ IU (fun _ h => by cases h) (by kernel_rfl) (fun _ h => by cases h) chained_row_tie rfl ⟨rfl, rfl⟩ (by kernel_rfl) rfl plain (by kernel_rfl)
end Go.Proofs.YtknakfpciccoaaaGreatDoor
