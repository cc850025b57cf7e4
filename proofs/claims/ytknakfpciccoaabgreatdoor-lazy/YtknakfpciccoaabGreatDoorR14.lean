/- For every list of numbers and every three numbers that can be read, sheafkeep.Lazy returns true: of a store that is filled out of the numbers, a stage that works out an expression which fails fails at the first document at which it would, with its error and its place, whatever stage is behind it; not, if none comes to it. Its conditions: those of the given card. -/
import Derived.Test.YtknakfpciccoaabGreatDoorCards
import Derived.Test.YtknakfpciccoaabGreatDoorTie
import Derived.Test.YtknakfpciccoaabGreatDoorZL40
import Derived.Test.YtknakfpciccoaabGreatDoorZL43
import Derived.Lib.AppendIntMem
import Derived.Lib.LaidTab
import Derived.Stop.LaidErr
import Derived.ChangeMaps5
import Derived.Lib.LaidIn
import Derived.Lib.LaidU8T
import Derived.Deep.DeepHandedRow
import Derived.Deep.DeepWitnessRowRef
import Derived.ProofKit
import Derived.SizedLaws
import Derived.OpenShut
import Derived.Test.YtknakfpciccoaabGreatDoorZL41
namespace Go.Proofs.YtknakfpciccoaabGreatDoor
open Go.ChangeShapes Go.WideShapes Go.ChangeAt Go.RowKit Go.Lib Go.Shelf
open Go.ChangeMaps (open_string shut_string)

theorem LC (os : Os) {H : Type} (enc : TypeId × Value → H) :
    (OpenSpec.ofChange Rows.lazySpec).preRow enc Tryz.prog Tryz.f5 Rows.lazyRow.domain false Rows.lazyRow.laid ((xw os).forCall (fun _ _ => 0) ⟨#[], #[.slice none 0 0, .int .i64 0, .int .i64 0, .int .i64 0], []⟩).memory #[.slice none 0 0, .int .i64 0, .int .i64 0, .int .i64 0] := by
  have hw : (DataW.whole enc Tryz.prog ((xw os).forCall (fun _ _ => 0) ⟨#[], #[.slice none 0 0, .int .i64 0, .int .i64 0, .int .i64 0], []⟩).memory Tryz.f5.params.toList (OpenSpec.ofChange Rows.lazySpec).vars false #[Value.slice none 0 0, .int .i64 0, .int .i64 0, .int .i64 0].toList 8).map (fun x => (x.1, x.2.1)) =
      some ([DataW.nil, .lit (.int .i64 0), .lit (.int .i64 0), .lit (.int .i64 0)], []) := by kernel_rfl
  obtain ⟨⟨x1, x2, x3⟩, hx, hx1⟩ := Option.map_eq_some_iff.1 hw
  simp only [Prod.mk.injEq] at hx1
  obtain ⟨rfl, rfl⟩ := hx1
  exact OpenSpec.preRow_of_cond 8 hx (by kernel_rfl) (fun k hk => by cases hk) (by kernel_rfl) (Yg os _)
set_option maxHeartbeats 2000000 in
set_option maxRecDepth 100000 in
theorem Ym (H : Type) (enc : TypeId × Value → H) (W : World) (base : Nat) (args : Array Value) (ds gs : List (DataW H)) (before : List MemPlace)
    (hval : ∀ (j : Nat) t v, Tryz.f5.params[j]? = some t → args[j]? = some v → Value.okWide Tryz.prog W .any base t v)
    (hW : DataW.Whole enc Tryz.prog Tryz.f5.params.toList Rows.lazySpec.vars false W args.toList ds gs before)
    (hsz : (DataW.weightsEach Tryz.prog (Tryz.f5.params.toList ++ (OpenSpec.ofChange Rows.lazySpec).bare.plain.varTypes Tryz.prog) (ds ++ gs)).all (· ≤ reachBytes) = true)
    (hL : laidMetH Tryz.prog Rows.lazyRow.laid W) (hS : W.ShapedOpen Tryz.prog) :
    Calls Tryz.prog 5 args W fun e W' => ∃ v, e = .returned v ∧ Rows.lazySpec.post enc Tryz.prog Tryz.f5 false true false false W args v W' := by
  have hW' := hW
  obtain ⟨p, q, hA0, hV, rfl, hfz, hnd⟩ := hW
  have hA : DataW.TrodAll enc Tryz.prog W 0 (fun _ => true) true Tryz.f5.params.toList args.toList ds p := hA0
  rw [Tryz.params5] at hA hval
  obtain ⟨v0, vs0, d0, ds0, p0, q0, hargs, rfl, rfl, h0, r0⟩ := trodAll_cons hA
  obtain ⟨v1, vs1, d1, ds1, p1, q1, rfl, rfl, rfl, h1, r1⟩ := trodAll_cons r0
  obtain ⟨v2, vs2, d2, ds2, p2, q2, rfl, rfl, rfl, h2, r2⟩ := trodAll_cons r1
  obtain ⟨v3, vs3, d3, ds3, p3, q3, rfl, rfl, rfl, h3, r3⟩ := trodAll_cons r2
  obtain ⟨rfl, rfl, rfl⟩ := trodAll_nil r3
  obtain rfl : args = #[v0, v1, v2, v3] := by cases args; simp_all
  obtain ⟨rfl, rfl⟩ := trodVars_none hV
  obtain ⟨a1, rfl, rfl, rfl, w1⟩ := open_int Tryz.underlying3 (hval 1 3 v1 rfl rfl) h1
  obtain ⟨a2, rfl, rfl, rfl, w2⟩ := open_int Tryz.underlying3 (hval 2 3 v2 rfl rfl) h2
  obtain ⟨a3, rfl, rfl, rfl, w3⟩ := open_int Tryz.underlying3 (hval 3 3 v3 rfl rfl) h3
  obtain ⟨sa, sl, sc, rfl⟩ := okWide_slice Tryz.underlying22 (hval 0 22 v0 rfl rfl)
  clear hA0
  have hlt : ∀ x ∈ p0, x.block < W.heap.size := fun x hx => hW'.lt x (by simpa using hx)
  have g0 := h0
  obtain ⟨f0, t0⟩ := h0
  have ws : ∀ k ∈ DataW.weightsEach Tryz.prog (Tryz.f5.params.toList ++ (OpenSpec.ofChange Rows.lazySpec).bare.plain.varTypes Tryz.prog) ([d0, .lit (.int .i64 a1), .lit (.int .i64 a2), .lit (.int .i64 a3)] ++ []), k ≤ reachBytes := fun k hk => of_decide_eq_true (List.all_eq_true.1 hsz k hk)
  have hp : (Tryz.f5.params.toList ++ (OpenSpec.ofChange Rows.lazySpec).bare.plain.varTypes Tryz.prog)[0]? = some 22 := by rw [Tryz.params5]; rfl
  have tc : DataW.trod enc Tryz.prog W 0 (fun _ => true) true f0 22 [.slice sa sl sc] = some (d0, p0) := by simpa [Value.cells] using t0
  obtain ⟨n, hn⟩ := adQ (enc := enc) tc (fun k hk => ws k (DataW.weights_mem_each (j := 0) hp rfl k hk))
  have b1 := Ir w1
  have b2 := Ir w2
  have b3 := Ir w3
  refine (Ya OW (.slice sa sl sc) n a1 a2 a3 W hn b1.1 b1.2 b2.1 b2.2 b3.1 b3.2 (Yj hL hS)).mono fun e W' ⟨he, hbel⟩ => ?_
  subst he
  have e1 : Rows.lazySpec.fn H ([d0, .lit (.int .i64 a1), .lit (.int .i64 a2), .lit (.int .i64 a3)] ++ []) = { results := [.lit (.bool true)], args := [d0, .lit (.int .i64 a1), .lit (.int .i64 a2), .lit (.int .i64 a3)] } := rfl
  have l0 : laidOutB Tryz.prog = true := by kernel_rfl
  have l1 : Tryz.prog.readableRec 22 = true := by kernel_rfl
  have l2 : 22 < Tryz.prog.types.size := of_decide_eq_true (by kernel_rfl)
  have k0 := Below.trod l0 l1 l2 g0 hbel hlt
  refine ⟨_, rfl, _, _, _, [], p0, [], by simpa using hW', ?_, ?_, ?_, hbel.frame _, fun h => by cases h⟩
  · rw [e1]; exact trodAll_mk1 (shut_bool Tryz.underlying4 _)
  · rw [e1]; rw [Tryz.params5]
    have := trodAll_cons_mk k0 (trodAll_cons_mk (shut_int Tryz.underlying3 w1) (trodAll_cons_mk (shut_int Tryz.underlying3 w2) (trodAll_cons_mk (shut_int Tryz.underlying3 w3) trodAll_mk0)))
    simpa using this
  · rw [e1]; rfl
theorem adR (os : Os) : (xw os).os = os := rfl
theorem adS (os : Os) : ((xw os).forCall (fun _ _ => 0) ⟨#[], #[.slice none 0 0, .int .i64 0, .int .i64 0, .int .i64 0], []⟩).variablesRefB Tryz.checked.prog = true := by kernel_rfl
theorem adT (os : Os) : (((xw os).forCall (fun _ _ => 0) ⟨#[], #[.slice none 0 0, .int .i64 0, .int .i64 0, .int .i64 0], []⟩).heap.toList.drop Tryz.checked.prog.globals.size).take ((begin Tryz.checked.prog (fun _ _ => 0) default).world.heap.size - Tryz.checked.prog.globals.size) = (begin Tryz.checked.prog (fun _ _ => 0) default).world.heap.toList.drop Tryz.checked.prog.globals.size := by kernel_rfl
theorem adU (os : Os) : Input.okWideB Tryz.checked.prog ((xw os).forCall (fun _ _ => 0) ⟨#[], #[.slice none 0 0, .int .i64 0, .int .i64 0, .int .i64 0], []⟩) 5 ⟨#[], #[.slice none 0 0, .int .i64 0, .int .i64 0, .int .i64 0], []⟩ = true := by kernel_rfl
theorem aaC : Tryz.checked.prog.inits.idxOf? 5 = none := by kernel_rfl
theorem aaD (os : Os) (H : Type) (enc : TypeId × Value → H) : (OpenSpec.ofChange Rows.lazySpec).preRow enc Tryz.checked.prog Tryz.f5 Rows.lazyRow.domain false Rows.lazyRow.laid ((xw os).forCall (fun _ _ => 0) ⟨#[], #[.slice none 0 0, .int .i64 0, .int .i64 0, .int .i64 0], []⟩).memory #[.slice none 0 0, .int .i64 0, .int .i64 0, .int .i64 0] := LC os enc
set_option maxHeartbeats 2000000 in
set_option maxRecDepth 100000 in
theorem lifted (os : Os) (started : os.Started) (H : Type) (enc : TypeId × Value → H) (F : Stop.Interp) :
    ReturnsInHanded {} Tryz.checked os 5 .any ((OpenSpec.ofChange Rows.lazySpec).preRow enc Tryz.prog Tryz.f5 Rows.lazyRow.domain false Rows.lazyRow.laid) (((OpenSpec.ofChange Rows.lazySpec).at F).post enc Tryz.prog Tryz.f5 false true false false) := by
  refine returnsInHanded_of_row (C := Tryz.checked) (s := OpenSpec.ofChange Rows.lazySpec) Yf started aaC Tryz.func5
    (witness_row_atRef (enc := enc) (C := Tryz.checked) false (xw os) #[.slice none 0 0, .int .i64 0, .int .i64 0, .int .i64 0] (adR os) (adS os) (adT os) (adU os) (aaD os H enc)) ?_
  intro W base args ds gs before hval hW _ _ hsz hL hS _
  exact Ym H enc W base args ds gs before hval hW hsz hL hS
theorem jf0 : (Rows.lazyRow.wf (OpenSpec.ofChange (OpenSpec.ofChange Rows.lazySpec).bare)) = true := by kernel_rfl
theorem jf3 : (Tryz.f5.params.all (Tryz.pinned.checked.prog.readableRec ·)) = true := by kernel_rfl
theorem jf4 : (namedTie Tryz.pinned.checked.prog Rows.lazyRow.named (OpenSpec.ofChange Rows.lazySpec).bare.vars) = true := by kernel_rfl
theorem jf5 : ((Rows.lazyRow.stops == [])) = true := by kernel_rfl
theorem jf7 : ((Rows.lazyRow.knobs == [])) = true := by kernel_rfl
theorem jf9 : ((Rows.lazyRow.inPlace == Tryz.pinned.checked.prog.inPlace 5)) = true := by kernel_rfl
theorem ajh : ((Rows.lazyRow.unfollowed == Tryz.pinned.checked.prog.unfollowed 5)) = true := by kernel_rfl
theorem aji : ((Rows.lazyRow.recurses == Tryz.pinned.checked.prog.recurses 5)) = true := by kernel_rfl
theorem ajj : ((Rows.lazyRow.named == Tryz.pinned.checked.prog.varsNamed 5)) = true := by kernel_rfl
theorem ajk : ((Rows.lazyRow.maps == (Tryz.f5.params.toList ++ (OpenSpec.ofChange Rows.lazySpec).bare.plain.varTypes Tryz.pinned.checked.prog).any (Tryz.pinned.checked.prog.mapsRec ·))) = true := by kernel_rfl
theorem ajl : ((Rows.lazyRow.ifaces == (Tryz.f5.params.toList ++ (OpenSpec.ofChange Rows.lazySpec).bare.plain.varTypes Tryz.pinned.checked.prog).any (Tryz.pinned.checked.prog.ifacesRec ·))) = true := by kernel_rfl
theorem ajm : ((Rows.lazyRow.mapsOut == Tryz.pinned.checked.prog.mapsAmong Tryz.f5.resultTypes.toList)) = true := by kernel_rfl
theorem ajn : ((Rows.lazyRow.loops == (Tryz.f5.params.toList ++ (OpenSpec.ofChange Rows.lazySpec).bare.plain.varTypes Tryz.pinned.checked.prog).any (Tryz.pinned.checked.prog.loopsFrom ·))) = true := by kernel_rfl
theorem ajo : ((Rows.lazyRow.wideKeys == (Tryz.f5.params.toList ++ (OpenSpec.ofChange Rows.lazySpec).bare.plain.varTypes Tryz.pinned.checked.prog ++ Tryz.f5.resultTypes.toList).any (Tryz.pinned.checked.prog.wideKeysFrom ·))) = true := by kernel_rfl
theorem ajp : ((OpenSpec.ofChange Rows.lazySpec).bare.vars.all (Tryz.pinned.checked.prog.varReadable ·)) = true := by kernel_rfl
theorem ajq : (Tryz.f5.resultTypes.all (fun t => Tryz.pinned.checked.prog.readableRec t && decide (t < Tryz.pinned.checked.prog.types.size))) = true := by kernel_rfl
theorem ajr : ((Rows.lazyRow.ifacesOut == Tryz.f5.resultTypes.toList.any (Tryz.pinned.checked.prog.ifacesRec ·))) = true := by kernel_rfl
theorem ajs : ((Rows.lazyRow.loopsOut == Tryz.f5.resultTypes.toList.any (Tryz.pinned.checked.prog.loopsFrom ·))) = true := by kernel_rfl
theorem ajt : ((Rows.lazyRow.plainKeys == Tryz.pinned.checked.prog.plainKeys)) = true := by kernel_rfl
theorem aju : (Rows.lazyRow.shortTexts.isNone) = true := by kernel_rfl
theorem ajv : ((Rows.lazyRow.lifted == Tryz.pinned.checked.prog.liftsFinal)) = true := by kernel_rfl
theorem ajw : ((Tryz.pinned.checked.prog.make == some Rows.lazyRow.make)) = true := by kernel_rfl
theorem ajx : ((Rows.lazyRow.kinds == (if Rows.lazyRow.domain.isEmpty then [] else Tryz.f5.params.toList.map fun t => match Tryz.pinned.checked.prog.underlying t with | some (.int k) => some k | _ => none))) = true := by kernel_rfl
theorem ajy : ((Rows.lazyRow.pinned == Rows.lazyRow.pinnedBy)) = true := by kernel_rfl
theorem ajz : ((Rows.lazyRow.veiled == (Tryz.f5.params.toList ++ (OpenSpec.ofChange Rows.lazySpec).bare.plain.varTypes Tryz.pinned.checked.prog ++ Tryz.f5.resultTypes.toList).any (Tryz.pinned.checked.prog.veiledRec ·))) = true := by kernel_rfl
theorem ajA : (Rows.lazyRow.veiledFits Tryz.pinned.checked.prog Tryz.f5.params.toList (Tryz.f5.params.toList ++ (OpenSpec.ofChange Rows.lazySpec).bare.plain.varTypes Tryz.pinned.checked.prog ++ Tryz.f5.resultTypes.toList)) = true := by kernel_rfl
set_option maxHeartbeats 2000000 in
set_option maxRecDepth 100000 in
theorem adV : joinedFacts Tryz.pinned.checked.prog 5 Tryz.f5 (OpenSpec.ofChange Rows.lazySpec).bare Rows.lazyRow = true := by
  unfold joinedFacts
  exact dI (dI (dI (dI (dI (dI (dI (dI (dI (dI (dI (dI (dI (dI (dI (dI (dI (dI (dI (dI (dI (dI (dI (dI (dI (dI (dI (dI (dI (dI (dI jf0 jf1) jf2) jf3) jf4) jf5) jf6) jf7) jf8) jf9) ajh) aji) ajj) ajk) ajl) ajm) ajn) ajo) ajp) ajq) ajr) ajs) ajt) aju) ajf) ajg) ajv) ajw) ajx) ajy) ajz) ajA
theorem Tn : Rows.LazySaid :=
  OpenClaim.holds_of_cond 5 Tryz.f5 rfl rfl rfl rfl rfl rfl rfl ⟨rfl, rfl, rfl, rfl, rfl⟩ rfl rfl rfl rfl rfl (by kernel_rfl) Tryz.func5 adV
    (of_decide_eq_true (by kernel_rfl)) (by unfold Func.isWrapper; first | (rw [if_pos (by decide +kernel)]; kernel_rfl) | (rw [if_neg (by decide +kernel)]; exact ⟨rfl, rfl⟩))
    (fun os started H enc _ F => by rw [OpenClaim.pre_eq_preRow]; exact lifted os started H enc F)
theorem plain (f : FuncId) (fn : Func) (hf : Tryz.pinned.checked.prog.funcNamed Rows.lazyRow.func = some f) (hfn : Tryz.pinned.checked.prog.funcs[f]? = some fn) :
    true = Tryz.pinned.checked.prog.looks [] ∧ ∀ (j : Nat) t, fn.params[j]? = some t → Tryz.pinned.checked.prog.wantsStandIn t = false := by
  obtain rfl : f = 5 := Option.some.inj ((show Tryz.prog.funcNamed Rows.lazyRow.func = some 5 by kernel_rfl).symm.trans hf) |>.symm
  obtain rfl : fn = Tryz.f5 := (Option.some.inj (Tryz.func5.symm.trans hfn)).symm
  refine ⟨by kernel_rfl, fun j t ht => ?_⟩
  rw [Tryz.params5] at ht
  have ht' : t = 22 ∨ t = 3 := by
    have := Array.mem_of_getElem? ht
    simp at this
    omega
  rcases ht' with rfl | rfl
  · exact (show Tryz.prog.wantsStandIn 22 = false by kernel_rfl)
  · exact (show Tryz.prog.wantsStandIn 3 = false by kernel_rfl)
/-- THE CARD. -/
theorem lazy_card : Rows.LazyCardSaid :=
  Claim7.holds_tied_plain_at .later [] _ _ _ _ Tn (fun _ h => by cases h) (by kernel_rfl) (fun _ h => by cases h) lazy_row_tie rfl ⟨rfl, rfl⟩ (by kernel_rfl) rfl plain (by kernel_rfl)
end Go.Proofs.YtknakfpciccoaabGreatDoor
