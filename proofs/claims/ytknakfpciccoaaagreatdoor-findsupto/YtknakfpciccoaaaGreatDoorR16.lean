/- For every script of calls that can be read and is of bulk at most 1048576, sheaflaw.Finds returns true, and the script reads as it did: of two stores of the program's, each beside the document's own, Create, Drop, Insert, Find and Delete answer alike, of any texts, and the lists that came out stay their owner's. Its conditions: those of the given card. -/
import Derived.Test.YtknakfpciccoaaaGreatDoorCards
import Derived.Test.YtknakfpciccoaaaGreatDoorTie
import Derived.Test.YtknakfpciccoaaaGreatDoorZF45
import Derived.Lib.AppendIntMem
import Derived.Lib.LaidTab
import Derived.Stop.LaidErr
import Derived.ChangeMaps5
import Derived.Lib.LaidIn
import Derived.Lib.LaidU8T
import Derived.Deep.DeepHandedRow
import Derived.Deep.DeepWitnessRowRef
import Derived.ProofKit
import Derived.SizedLaws
import Derived.OpenShut
import Derived.Test.YtknakfpciccoaaaGreatDoorZF13
namespace Go.Proofs.YtknakfpciccoaaaGreatDoor
open Go.ChangeShapes Go.WideShapes Go.ChangeAt Go.RowKit Go.Lib Go.Shelf
open Go.ChangeMaps (open_string shut_string)

theorem JQ (os : Os) {H : Type} (enc : TypeId × Value → H) :
    (Rows.OpenSpec.upto Rows.findsSpec).preRow enc Tryz.prog Tryz.f5 Rows.findsUptoRow.domain false Rows.findsUptoRow.laid ((vH os).forCall (fun _ _ => 0) ⟨#[], #[.slice none 0 0], []⟩).memory #[.slice none 0 0] := by
  have hw : (DataW.whole enc Tryz.prog ((vH os).forCall (fun _ _ => 0) ⟨#[], #[.slice none 0 0], []⟩).memory Tryz.f5.params.toList (Rows.OpenSpec.upto Rows.findsSpec).vars false #[Value.slice none 0 0].toList 8).map (fun x => (x.1, x.2.1)) =
      some ([DataW.nil], []) := by kernel_rfl
  obtain ⟨⟨x1, x2, x3⟩, hx, hx1⟩ := Option.map_eq_some_iff.1 hw
  simp only [Prod.mk.injEq] at hx1
  obtain ⟨rfl, rfl⟩ := hx1
  exact OpenSpec.preRow_of_cond 8 hx (by kernel_rfl) (fun k hk => by cases hk; kernel_rfl) (by kernel_rfl) (RP os _)
set_option maxHeartbeats 2000000 in
set_option maxRecDepth 100000 in
theorem Uz (H : Type) (enc : TypeId × Value → H) (W : World) (base : Nat) (args : Array Value) (ds gs : List (DataW H)) (before : List MemPlace)
    (hval : ∀ (j : Nat) t v, Tryz.f5.params[j]? = some t → args[j]? = some v → Value.okWide Tryz.prog W .any base t v)
    (hW : DataW.Whole enc Tryz.prog Tryz.f5.params.toList Rows.findsSpec.vars false W args.toList ds gs before)
    (hk : Rows.uptoSmall H (ds ++ gs) = true)
    (hL : laidMetH Tryz.prog Rows.findsUptoRow.laid W) (hS : W.ShapedOpen Tryz.prog) :
    Calls Tryz.prog 5 args W fun e W' => ∃ v, e = .returned v ∧ Rows.findsSpec.post enc Tryz.prog Tryz.f5 false true false false W args v W' := by
  have hW' := hW
  obtain ⟨p, q, hA0, hV, rfl, hfz, hnd⟩ := hW
  have hA : DataW.TrodAll enc Tryz.prog W 0 (fun _ => true) true Tryz.f5.params.toList args.toList ds p := hA0
  rw [Tryz.params5] at hA hval
  obtain ⟨v0, vs0, d0, ds0, p0, q0, hargs, rfl, rfl, h0, r0⟩ := trodAll_cons hA
  obtain ⟨rfl, rfl, rfl⟩ := trodAll_nil r0
  obtain rfl : args = #[v0] := by cases args; simp_all
  obtain ⟨rfl, rfl⟩ := trodVars_none hV
  obtain ⟨sa, sl, sc, rfl⟩ := okWide_slice Tryz.underlying34 (hval 0 34 v0 rfl rfl)
  clear hA0
  have hlt : ∀ x ∈ p0, x.block < W.heap.size := fun x hx => hW'.lt x (by simpa using hx)
  have g0 := h0
  obtain ⟨f0, t0⟩ := h0
  have tc : DataW.trod enc Tryz.prog W 0 (fun _ => true) true f0 34 [.slice sa sl sc] = some (d0, p0) := by simpa [Value.cells] using t0
  have hk2 : Rows.uptoBulkAll ([d0] ++ []) ≤ 1048576 := of_decide_eq_true hk
  simp only [List.append_nil, Rows.uptoBulkAll] at hk2
  obtain ⟨ops, hops⟩ := Qr (enc := enc) tc (show Rows.uptoBulk d0 ≤ 1048576 by omega)
  refine (Qp LG (.slice sa sl sc) ops W hops (fun w' hb => Ey W (Ja hL hS) W w' (Ja hL hS) hb)).mono fun e W' ⟨he, hbel⟩ => ?_
  subst he
  have e1 : Rows.findsSpec.fn H ([d0] ++ []) = { results := [.lit (.bool true)], args := [d0] } := rfl
  have l0 : laidOutB Tryz.prog = true := by kernel_rfl
  have l1 : Tryz.prog.readableRec 34 = true := by kernel_rfl
  have l2 : 34 < Tryz.prog.types.size := of_decide_eq_true (by kernel_rfl)
  have k0 := Below.trod l0 l1 l2 g0 hbel hlt
  refine ⟨_, rfl, _, _, _, [], p0, [], by simpa using hW', ?_, ?_, ?_, hbel.frame _, fun h => by cases h⟩
  · rw [e1]; exact trodAll_mk1 (shut_bool Tryz.underlying4 _)
  · rw [e1]; rw [Tryz.params5]
    have := trodAll_cons_mk k0 trodAll_mk0
    simpa using this
  · rw [e1]; rfl
theorem YM (os : Os) : (vH os).os = os := rfl
theorem YN (os : Os) : ((vH os).forCall (fun _ _ => 0) ⟨#[], #[.slice none 0 0], []⟩).variablesRefB Tryz.checked.prog = true := by kernel_rfl
theorem YO (os : Os) : (((vH os).forCall (fun _ _ => 0) ⟨#[], #[.slice none 0 0], []⟩).heap.toList.drop Tryz.checked.prog.globals.size).take ((begin Tryz.checked.prog (fun _ _ => 0) default).world.heap.size - Tryz.checked.prog.globals.size) = (begin Tryz.checked.prog (fun _ _ => 0) default).world.heap.toList.drop Tryz.checked.prog.globals.size := by kernel_rfl
theorem YP (os : Os) : Input.okWideB Tryz.checked.prog ((vH os).forCall (fun _ _ => 0) ⟨#[], #[.slice none 0 0], []⟩) 5 ⟨#[], #[.slice none 0 0], []⟩ = true := by kernel_rfl
theorem Wv : Tryz.checked.prog.inits.idxOf? 5 = none := by kernel_rfl
theorem Ww (os : Os) (H : Type) (enc : TypeId × Value → H) : (Rows.OpenSpec.upto Rows.findsSpec).preRow enc Tryz.checked.prog Tryz.f5 Rows.findsUptoRow.domain false Rows.findsUptoRow.laid ((vH os).forCall (fun _ _ => 0) ⟨#[], #[.slice none 0 0], []⟩).memory #[.slice none 0 0] := JQ os enc
set_option maxHeartbeats 2000000 in
set_option maxRecDepth 100000 in
theorem lifted (os : Os) (started : os.Started) (H : Type) (enc : TypeId × Value → H) (F : Stop.Interp) :
    ReturnsInHanded {} Tryz.checked os 5 .any ((Rows.OpenSpec.upto Rows.findsSpec).preRow enc Tryz.prog Tryz.f5 Rows.findsUptoRow.domain false Rows.findsUptoRow.laid) (((Rows.OpenSpec.upto Rows.findsSpec).at F).post enc Tryz.prog Tryz.f5 false true false false) := by
  refine returnsInHanded_of_row (C := Tryz.checked) (s := Rows.OpenSpec.upto Rows.findsSpec) RO started Wv Tryz.func5
    (witness_row_atRef (enc := enc) (C := Tryz.checked) false (vH os) #[.slice none 0 0] (YM os) (YN os) (YO os) (YP os) (Ww os H enc)) ?_
  intro W base args ds gs before hval hW _ hcond _ hL hS _
  exact Uz H enc W base args ds gs before hval hW (hcond _ rfl) hL hS
theorem jf0 : (Rows.findsUptoRow.wf (OpenSpec.ofChange (Rows.OpenSpec.upto Rows.findsSpec).bare)) = true := by kernel_rfl
theorem jf3 : (Tryz.f5.params.all (Tryz.pinned.checked.prog.readableRec ·)) = true := by kernel_rfl
theorem jf4 : (namedTie Tryz.pinned.checked.prog Rows.findsUptoRow.named (Rows.OpenSpec.upto Rows.findsSpec).bare.vars) = true := by kernel_rfl
theorem jf5 : ((Rows.findsUptoRow.stops == [])) = true := by kernel_rfl
theorem jf7 : ((Rows.findsUptoRow.knobs == [])) = true := by kernel_rfl
theorem jf9 : ((Rows.findsUptoRow.inPlace == Tryz.pinned.checked.prog.inPlace 5)) = true := by kernel_rfl
theorem adR : ((Rows.findsUptoRow.unfollowed == Tryz.pinned.checked.prog.unfollowed 5)) = true := by kernel_rfl
theorem adS : ((Rows.findsUptoRow.recurses == Tryz.pinned.checked.prog.recurses 5)) = true := by kernel_rfl
theorem adT : ((Rows.findsUptoRow.named == Tryz.pinned.checked.prog.varsNamed 5)) = true := by kernel_rfl
theorem adU : ((Rows.findsUptoRow.maps == (Tryz.f5.params.toList ++ (Rows.OpenSpec.upto Rows.findsSpec).bare.plain.varTypes Tryz.pinned.checked.prog).any (Tryz.pinned.checked.prog.mapsRec ·))) = true := by kernel_rfl
theorem adV : ((Rows.findsUptoRow.ifaces == (Tryz.f5.params.toList ++ (Rows.OpenSpec.upto Rows.findsSpec).bare.plain.varTypes Tryz.pinned.checked.prog).any (Tryz.pinned.checked.prog.ifacesRec ·))) = true := by kernel_rfl
theorem adW : ((Rows.findsUptoRow.mapsOut == Tryz.pinned.checked.prog.mapsAmong Tryz.f5.resultTypes.toList)) = true := by kernel_rfl
theorem adX : ((Rows.findsUptoRow.loops == (Tryz.f5.params.toList ++ (Rows.OpenSpec.upto Rows.findsSpec).bare.plain.varTypes Tryz.pinned.checked.prog).any (Tryz.pinned.checked.prog.loopsFrom ·))) = true := by kernel_rfl
theorem adY : ((Rows.findsUptoRow.wideKeys == (Tryz.f5.params.toList ++ (Rows.OpenSpec.upto Rows.findsSpec).bare.plain.varTypes Tryz.pinned.checked.prog ++ Tryz.f5.resultTypes.toList).any (Tryz.pinned.checked.prog.wideKeysFrom ·))) = true := by kernel_rfl
theorem adZ : ((Rows.OpenSpec.upto Rows.findsSpec).bare.vars.all (Tryz.pinned.checked.prog.varReadable ·)) = true := by kernel_rfl
theorem ad1 : (Tryz.f5.resultTypes.all (fun t => Tryz.pinned.checked.prog.readableRec t && decide (t < Tryz.pinned.checked.prog.types.size))) = true := by kernel_rfl
theorem ad2 : ((Rows.findsUptoRow.ifacesOut == Tryz.f5.resultTypes.toList.any (Tryz.pinned.checked.prog.ifacesRec ·))) = true := by kernel_rfl
theorem ad3 : ((Rows.findsUptoRow.loopsOut == Tryz.f5.resultTypes.toList.any (Tryz.pinned.checked.prog.loopsFrom ·))) = true := by kernel_rfl
theorem ad4 : ((Rows.findsUptoRow.plainKeys == Tryz.pinned.checked.prog.plainKeys)) = true := by kernel_rfl
theorem ad5 : (Rows.findsUptoRow.shortTexts.isNone) = true := by kernel_rfl
theorem ad6 : ((Rows.findsUptoRow.lifted == Tryz.pinned.checked.prog.liftsFinal)) = true := by kernel_rfl
theorem ad7 : ((Tryz.pinned.checked.prog.make == some Rows.findsUptoRow.make)) = true := by kernel_rfl
theorem ad8 : ((Rows.findsUptoRow.kinds == (if Rows.findsUptoRow.domain.isEmpty then [] else Tryz.f5.params.toList.map fun t => match Tryz.pinned.checked.prog.underlying t with | some (.int k) => some k | _ => none))) = true := by kernel_rfl
theorem ad9 : ((Rows.findsUptoRow.pinned == Rows.findsUptoRow.pinnedBy)) = true := by kernel_rfl
theorem aea : ((Rows.findsUptoRow.veiled == (Tryz.f5.params.toList ++ (Rows.OpenSpec.upto Rows.findsSpec).bare.plain.varTypes Tryz.pinned.checked.prog ++ Tryz.f5.resultTypes.toList).any (Tryz.pinned.checked.prog.veiledRec ·))) = true := by kernel_rfl
theorem aeb : (Rows.findsUptoRow.veiledFits Tryz.pinned.checked.prog Tryz.f5.params.toList (Tryz.f5.params.toList ++ (Rows.OpenSpec.upto Rows.findsSpec).bare.plain.varTypes Tryz.pinned.checked.prog ++ Tryz.f5.resultTypes.toList)) = true := by kernel_rfl
set_option maxHeartbeats 2000000 in
set_option maxRecDepth 100000 in
theorem YQ : joinedFacts Tryz.pinned.checked.prog 5 Tryz.f5 (Rows.OpenSpec.upto Rows.findsSpec).bare Rows.findsUptoRow = true := by
  unfold joinedFacts
  exact bQ (bQ (bQ (bQ (bQ (bQ (bQ (bQ (bQ (bQ (bQ (bQ (bQ (bQ (bQ (bQ (bQ (bQ (bQ (bQ (bQ (bQ (bQ (bQ (bQ (bQ (bQ (bQ (bQ (bQ (bQ jf0 jf1) jf2) jf3) jf4) jf5) jf6) jf7) jf8) jf9) adR) adS) adT) adU) adV) adW) adX) adY) adZ) ad1) ad2) ad3) ad4) ad5) ach) aci) ad6) ad7) ad8) ad9) aea) aeb
theorem MP : Rows.FindsUptoSaid :=
  OpenClaim.holds_of_cond 5 Tryz.f5 rfl rfl rfl rfl rfl rfl rfl ⟨rfl, rfl, rfl, rfl, rfl⟩ rfl rfl rfl rfl rfl (by kernel_rfl) Tryz.func5 YQ
    (of_decide_eq_true (by kernel_rfl)) (by unfold Func.isWrapper; first | (rw [if_pos (by decide +kernel)]; kernel_rfl) | (rw [if_neg (by decide +kernel)]; exact ⟨rfl, rfl⟩))
    (fun os started H enc _ F => by rw [OpenClaim.pre_eq_preRow]; exact lifted os started H enc F)
theorem plain (f : FuncId) (fn : Func) (hf : Tryz.pinned.checked.prog.funcNamed Rows.findsUptoRow.func = some f) (hfn : Tryz.pinned.checked.prog.funcs[f]? = some fn) :
    true = Tryz.pinned.checked.prog.looks [] ∧ ∀ (j : Nat) t, fn.params[j]? = some t → Tryz.pinned.checked.prog.wantsStandIn t = false := by
  obtain rfl : f = 5 := Option.some.inj ((show Tryz.prog.funcNamed Rows.findsUptoRow.func = some 5 by kernel_rfl).symm.trans hf) |>.symm
  obtain rfl : fn = Tryz.f5 := (Option.some.inj (Tryz.func5.symm.trans hfn)).symm
  refine ⟨by kernel_rfl, fun j t ht => ?_⟩
  rw [Tryz.params5] at ht
  have ht' : t = 34 := by
    have := Array.mem_of_getElem? ht
    simp at this
    omega
  subst ht'
  exact (show Tryz.prog.wantsStandIn 34 = false by kernel_rfl)
/-- THE CARD. -/
theorem finds_card : Rows.FindsUptoCardSaid :=
  Claim7.holds_tied_plain_at .later [] _ _ _ _ MP (fun _ h => by cases h) (by kernel_rfl) (fun _ h => by cases h) findsUpto_row_tie rfl ⟨rfl, rfl⟩ (by kernel_rfl) rfl plain (by kernel_rfl)
end Go.Proofs.YtknakfpciccoaaaGreatDoor
