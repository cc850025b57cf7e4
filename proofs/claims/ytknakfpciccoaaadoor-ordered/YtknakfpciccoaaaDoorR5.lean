/- For every three raw numbers, sheafkeep.Ordered returns true: Compare is an order on the values whose texts are made out of them. Its conditions: those of the given card. -/
import Derived.Test.YtknakfpciccoaaaDoorCards
import Derived.Test.YtknakfpciccoaaaDoorTie
import Derived.Test.YtknakfpciccoaaaDoorZO31
import Derived.Test.YtknakfpciccoaaaDoorZO32
import Derived.Lib.AppendIntMem
import Derived.Lib.LaidTab
import Derived.Stop.LaidErr
import Derived.ChangeMaps5
import Derived.Lib.LaidIn
import Derived.Lib.LaidU8T
import Derived.Deep.DeepHandedRow
import Derived.Deep.DeepWitnessRowRef
import Derived.ProofKit
import Derived.SizedLaws
import Derived.OpenShut
namespace Go.Proofs.YtknakfpciccoaaaDoor
open Go.ChangeShapes Go.WideShapes Go.ChangeAt Go.RowKit Go.Lib Go.Shelf
open Go.ChangeMaps (open_string shut_string)

/-- An error of the library's, in a cell. -/
def IsErr (w : World) (g : Nat) : Prop := ∃ te pe, w.cell? ⟨g, 0, none⟩ = some (.iface te pe)
/-- The tables of package utf8, and two errors of package strconv, in memory. -/
def Tabs2 (w : World) : Prop := Lib.Utf8Tabs 0 1 w ∧ IsErr w 5 ∧ IsErr w 6 ∧ Lib.TabIs Tryd.prog w "internal/strconv.uint64pow10" .u64 Lib.pow10Tab
theorem var_keep {n : String} {cs : Array Value} {w0 w w' : World} {cs0 : Array Value} (h0 : w0.var? Tryd.prog n = some cs0) (h : w.var? Tryd.prog n = some cs) (hb : Below w0.heap.size w w') : w'.var? Tryd.prog n = some cs := by
  unfold World.var? at h0 h ⊢
  cases hg : Tryd.prog.globalNamed n with
  | none => simp [hg] at h
  | some g =>
    simp only [hg, Option.bind_some] at h0 h ⊢
    have hlt : g < w0.heap.size := by
      rcases Nat.lt_or_ge g w0.heap.size with h' | h'
      · exact h'
      · simp [Array.getElem?_eq_none h'] at h0
    rw [hb.block g hlt]
    exact h
theorem tabs2_lie : Lies Tabs2 := by
  intro w0 h0 w w' h hb
  have lt : ∀ {a : Addr} {v : Value}, w0.cell? a = some v → a.block < w0.heap.size := fun {a v} hc => by
    rcases Nat.lt_or_ge a.block w0.heap.size with h' | h'
    · exact h'
    · simp [World.cell?, Array.getElem?_eq_none h'] at hc
  have err : ∀ {g : Nat}, IsErr w0 g → IsErr w g → IsErr w' g := fun {g} h1 h2 => by
    obtain ⟨t1, p1, e1⟩ := h1
    obtain ⟨t2, p2, e2⟩ := h2
    exact ⟨t2, p2, (hb.cell (lt e1)).trans e2⟩
  exact ⟨⟨fun c hc => (hb.cell (lt (h0.1.1 c hc))).trans (h.1.1 c hc), fun i hi => ⟨(hb.cell (lt (h0.1.2 i hi).1)).trans (h.1.2 i hi).1, (hb.cell (lt (h0.1.2 i hi).2)).trans (h.1.2 i hi).2⟩⟩, err h0.2.1 h.2.1, err h0.2.2.1 h.2.2.1, var_keep h0.2.2.2 h.2.2.2 hb⟩
theorem dec_said : DecSaid Tabs2 := fun s w hT => by
  have := Any.utf8_DecodeRuneInString Tryd.laysDecode s w hT.1
  refine this.mono ?_
  rintro e w' ⟨rfl, hb⟩
  refine ⟨?_, hb⟩
  unfold decG Lib.decodeGo
  split <;> rfl
theorem below_bytes (w : World) (e : TypeId) (s : ByteArray) : Below w.heap.size w (Lib.bytesWorld w e s) :=
  ⟨rfl, rfl, rfl, by rw [Lib.bytesWorld_size]; omega, fun j hj => Lib.bytesWorld_at_old w e s j hj⟩
theorem int_said : IntSaid Tabs2 := fun s w hs hT => by
  cases hp : Lib.parseIntB 64 s.data.toList with
  | ok v =>
    refine (Any.strconv_ParseInt_10_at64_ok Tryd.laysParseInt s (by omega) v hp w).mono ?_
    rintro e w' ⟨rfl, hb⟩
    refine ⟨?_, Or.inl ⟨v, rfl, rfl⟩⟩
    rcases hb with rfl | ⟨x, rfl⟩
    · exact Below.refl _ _
    · refine (Below.refl w.heap.size w).trans ?_
      exact below_bytes w _ x
  | «syntax» =>
    obtain ⟨te, pe, he⟩ := hT.2.1
    refine (Any.strconv_ParseInt_10_at64_syntax Tryd.laysParseInt s (by omega) hp (.iface te pe) w he (Or.inr ⟨te, pe, rfl⟩)).mono ?_
    rintro e w' ⟨N, rfl, _, _, hb⟩
    exact ⟨hb, Or.inr ⟨Or.inl rfl, _, _, _, rfl⟩⟩
  | range =>
    obtain ⟨te, pe, he⟩ := hT.2.2.1
    refine (Any.strconv_ParseInt_10_at64_range Tryd.laysParseInt s (by omega) hp (.iface te pe) w he (Or.inr ⟨te, pe, rfl⟩)).mono ?_
    rintro e w' ⟨N, rfl, _, _, hb⟩
    exact ⟨hb, Or.inr ⟨Or.inr rfl, _, _, _, rfl⟩⟩

theorem valid_said : ValidSaid Tabs2 := fun s w hs hT => Any.utf8_ValidString Tryd.laysValid s w hs hT.1
theorem itoa_said : ItoaSaid Tabs2 := fun n w h0 h1 hT => by
  refine (Any.strconv_Itoa Tryd.laysItoa n h0 h1 w hT.2.2.2).mono ?_
  rintro e w' ⟨rfl, k, os, rfl⟩
  exact ⟨rfl, Lib.below_grow _ _ (Nat.le_refl _) _ _⟩

theorem own_knob : ownKnob Tryd.prog.godebug = none := by kernel_rfl
def litCells : DataW Unit → List Value
  | .agg l => l.map fun | .lit (.int k n) => Value.int k n | _ => .nilIface
  | _ => []
abbrev synS : ByteArray := ⟨#[105, 110, 118, 97, 108, 105, 100, 32, 115, 121, 110, 116, 97, 120]⟩
abbrev rngS : ByteArray := ⟨#[118, 97, 108, 117, 101, 32, 111, 117, 116, 32, 111, 102, 32, 114, 97, 110, 103, 101]⟩
def setB (h : Array Obj) (g : Nat) (cs : List Value) : Array Obj := h.modify g fun | .cells _ t frozen => .cells cs.toArray t frozen | o => o
noncomputable def lowB : Nat := (World.holding Tryd.prog default ⟨#[], #[], []⟩).heap.size
noncomputable def laidW (os : Os) : World :=
  { World.holding Tryd.prog os ⟨#[.cells #[.string synS] 154, .cells #[.string rngS] 154], #[], []⟩ with
    heap := setB (setB (setB (setB (setB (setB (setB (World.holding Tryd.prog os ⟨#[.cells #[.string synS] 154, .cells #[.string rngS] 154], #[], []⟩).heap
      0 (Lib.firstTab.map fun z => Value.int .u8 z)) 1 ((List.range 16).flatMap fun i => [Value.int .u8 (Lib.accLo i), Value.int .u8 (Lib.accHi i)]))
      2 (litCells Rows.laid_internal_strconv_uint64pow10)) 3 (litCells Rows.laid_math_bits_deBruijn32tab)) 4 (litCells Rows.laid_math_bits_deBruijn64tab))
      5 [.iface 152 (.pointer (some ⟨lowB, 0, none⟩))]) 6 [.iface 152 (.pointer (some ⟨lowB + 1, 0, none⟩))] }
theorem laid_met (os : Os) (args : Array Value) : laidMet Tryd.prog Rows.orderedRow.laid ((laidW os).forCall (fun _ _ => 0) ⟨#[], args, []⟩).memory :=
  (LaidIn.of_run (l := Rows.orderedRow.laid) (List.range 40) 8 (by kernel_rfl) (by kernel_rfl) (by kernel_rfl) (by kernel_rfl)).met
theorem witness_row (os : Os) {H : Type} (enc : TypeId × Value → H) :
    (OpenSpec.ofChange Rows.orderedSpec).preRow enc Tryd.prog Tryd.f6 Rows.orderedRow.domain false Rows.orderedRow.laid ((laidW os).forCall (fun _ _ => 0) ⟨#[], #[.int .i64 0, .int .i64 0, .int .i64 0], []⟩).memory #[.int .i64 0, .int .i64 0, .int .i64 0] := by
  have hw : (DataW.whole enc Tryd.prog ((laidW os).forCall (fun _ _ => 0) ⟨#[], #[.int .i64 0, .int .i64 0, .int .i64 0], []⟩).memory Tryd.f6.params.toList (OpenSpec.ofChange Rows.orderedSpec).vars false #[Value.int .i64 0, Value.int .i64 0, Value.int .i64 0].toList 8).map (fun x => (x.1, x.2.1)) =
      some ([DataW.lit (.int .i64 0), DataW.lit (.int .i64 0), DataW.lit (.int .i64 0)], []) := by kernel_rfl
  obtain ⟨⟨x1, x2, x3⟩, hx, hx1⟩ := Option.map_eq_some_iff.1 hw
  simp only [Prod.mk.injEq] at hx1
  obtain ⟨rfl, rfl⟩ := hx1
  exact OpenSpec.preRow_of_cond 8 hx (by kernel_rfl) (fun k hk => by cases hk) (by kernel_rfl) (laid_met os _)
theorem first_data : Rows.laid_unicode_utf8_first = Lib.firstData := by kernel_rfl
theorem accept_data : (Rows.laid_unicode_utf8_acceptRanges : DataW Unit) = Lib.acceptData := by kernel_rfl
theorem star : "*" ++ "errors.errorString" = "*errors.errorString" := by decide
theorem row_err (u : TypeId) (h : Tryd.prog.typeName? 3 u = some "*errors.errorString") : u = 152 :=
  typeName_ptr_named (nm := "errors.errorString") (by rw [star]; kernel_rfl) (by kernel_rfl) (by decide) u (by rw [star]; exact h)
theorem err_of {n : String} {g : Nat} {text : List UInt8} {r : List (String × DataW Unit)} {W : World} (h : laidMet Tryd.prog ((n, .iface "*errors.errorString" (.ptr (.agg [.lit (.string text)]))) :: r) W)
    (hg : Tryd.prog.globalNamed n = some g) (ht : (Tryd.prog.globals[g]?).map (·.type) = some 112) : IsErr W g := by
  obtain ⟨a, s, hv, _⟩ := laid_sentinel h hg ht Tryd.underlying112 row_err Tryd.underlying152 Tryd.underlying154 rfl rfl Tryd.underlying9 (by kernel_rfl) (by kernel_rfl)
  exact ⟨_, _, by simpa using World.var?_cell hg hv 0⟩
theorem pow_data : (Rows.laid_internal_strconv_uint64pow10 : DataW Unit) = Lib.tabData .u64 Lib.pow10Tab := by kernel_rfl
theorem tabs_of {W : World} (hL : laidMetH Tryd.prog Rows.orderedRow.laid W) : Tabs2 W := by
  have hM : laidMet Tryd.prog Rows.orderedRow.laid W := hL
  have h1 := Lib.laidMet.reads hL (.tail _ (.tail _ (.tail _ (.head _))))
  have h2 := Lib.laidMet.reads hL (.tail _ (.tail _ (.tail _ (.tail _ (.tail _ (.tail _ (.head _)))))))
  rw [accept_data] at h1
  rw [first_data] at h2
  have hr := hM.tail.tail.tail.tail
  refine ⟨utf8Tabs_of_readsT (U8Types.of260 { Tryd.laysDecode with }) ⟨by kernel_rfl, by kernel_rfl, by kernel_rfl, by kernel_rfl, by kernel_rfl, by kernel_rfl, by kernel_rfl⟩ h2 h1, err_of hr.tail (by kernel_rfl) (by kernel_rfl), err_of hr (by kernel_rfl) (by kernel_rfl), ?_⟩
  have hp : laidMet Tryd.prog (("internal/strconv.uint64pow10", Rows.laid_internal_strconv_uint64pow10) :: Rows.orderedRow.laid.tail.tail.tail) W := hM.tail.tail
  rw [pow_data] at hp
  exact Lib.tabIs_of_head (g := 2) (by kernel_rfl) (by kernel_rfl) Tryd.underlying126 Tryd.underlying87 (by kernel_rfl) (by kernel_rfl) hp
theorem wf_bd {a : Int} (h : (Lit.int .i64 a).wf = true) : -9223372036854775808 ≤ a ∧ a ≤ 9223372036854775807 := by
  have e1 : IntKind.i64.min = -9223372036854775808 := rfl
  simp [Lit.wf] at h
  omega
set_option maxHeartbeats 2000000 in
set_option maxRecDepth 100000 in
theorem contract (H : Type) (enc : TypeId × Value → H) (W : World) (base : Nat) (args : Array Value) (ds gs : List (DataW H)) (before : List MemPlace)
    (hval : ∀ (j : Nat) t v, Tryd.f6.params[j]? = some t → args[j]? = some v → Value.okWide Tryd.prog W .any base t v)
    (hW : DataW.Whole enc Tryd.prog Tryd.f6.params.toList Rows.orderedSpec.vars false W args.toList ds gs before)
    (hL : laidMetH Tryd.prog Rows.orderedRow.laid W) :
    Calls Tryd.prog 6 args W fun e W' => ∃ v, e = .returned v ∧ Rows.orderedSpec.post enc Tryd.prog Tryd.f6 false true false false W args v W' := by
  have hW' := hW
  obtain ⟨p, q, hA0, hV, rfl, hfz, hnd⟩ := hW
  have hA : DataW.TrodAll enc Tryd.prog W 0 (fun _ => true) true Tryd.f6.params.toList args.toList ds p := hA0
  rw [Tryd.params6] at hA hval
  obtain ⟨v0, vs0, d0, ds0, p0, q0, hargs, rfl, rfl, h0, r0⟩ := trodAll_cons hA
  obtain ⟨v1, vs1, d1, ds1, p1, q1, rfl, rfl, rfl, h1, r1⟩ := trodAll_cons r0
  obtain ⟨v2, vs2, d2, ds2, p2, q2, rfl, rfl, rfl, h2, r2⟩ := trodAll_cons r1
  obtain ⟨rfl, rfl, rfl⟩ := trodAll_nil r2
  obtain rfl : args = #[v0, v1, v2] := by cases args; simp_all
  obtain ⟨rfl, rfl⟩ := trodVars_none hV
  obtain ⟨a0, rfl, rfl, rfl, w0⟩ := open_int Tryd.underlying3 (hval 0 3 v0 rfl rfl) h0
  obtain ⟨a1, rfl, rfl, rfl, w1⟩ := open_int Tryd.underlying3 (hval 1 3 v1 rfl rfl) h1
  obtain ⟨a2, rfl, rfl, rfl, w2⟩ := open_int Tryd.underlying3 (hval 2 3 v2 rfl rfl) h2
  clear hA0
  have b0 := wf_bd w0
  have b1 := wf_bd w1
  have b2 := wf_bd w2
  refine (Ordered_any itoa_said dec_said int_said valid_said tabs2_lie a0 a1 a2 W b0.1 b0.2 b1.1 b1.2 b2.1 b2.2 (tabs_of hL)).mono fun e W' ⟨he, hbel⟩ => ?_
  subst he
  have e1 : Rows.orderedSpec.fn H ([.lit (.int .i64 a0), .lit (.int .i64 a1), .lit (.int .i64 a2)] ++ []) = { results := [.lit (.bool true)], args := [.lit (.int .i64 a0), .lit (.int .i64 a1), .lit (.int .i64 a2)] } := rfl
  refine ⟨_, rfl, _, _, _, [], [], [], hW', ?_, ?_, ?_, hbel.frame _, fun h => by cases h⟩
  · rw [e1]; exact trodAll_mk1 (shut_bool Tryd.underlying4 _)
  · rw [e1]; rw [Tryd.params6]; exact trodAll_cons_mk (shut_int Tryd.underlying3 w0) (trodAll_cons_mk (shut_int Tryd.underlying3 w1) (trodAll_cons_mk (shut_int Tryd.underlying3 w2) trodAll_mk0))
  · rw [e1]; rfl
set_option maxHeartbeats 2000000 in
set_option maxRecDepth 100000 in
theorem lifted (os : Os) (started : os.Started) (H : Type) (enc : TypeId × Value → H) (F : Stop.Interp) :
    ReturnsInHanded {} Tryd.checked os 6 .any ((OpenSpec.ofChange Rows.orderedSpec).preRow enc Tryd.prog Tryd.f6 Rows.orderedRow.domain false Rows.orderedRow.laid) (((OpenSpec.ofChange Rows.orderedSpec).at F).post enc Tryd.prog Tryd.f6 false true false false) := by
  refine returnsInHanded_of_row (C := Tryd.checked) (s := OpenSpec.ofChange Rows.orderedSpec) own_knob started (by kernel_rfl) Tryd.func6
    (witness_row_atRef (enc := enc) (C := Tryd.checked) false (laidW os) #[.int .i64 0, .int .i64 0, .int .i64 0] rfl (by kernel_rfl) (by kernel_rfl) (by kernel_rfl) (witness_row os enc)) ?_
  intro W base args ds gs before hval hW _ _ _ hL _ _
  exact contract H enc W base args ds gs before hval hW hL
theorem ordered_said : Rows.OrderedSaid :=
  OpenClaim.holds_of_cond 6 Tryd.f6 rfl rfl rfl rfl rfl rfl rfl ⟨rfl, rfl, rfl, rfl, rfl⟩ rfl rfl rfl rfl rfl (by kernel_rfl) Tryd.func6 (by kernel_rfl)
    (of_decide_eq_true (by kernel_rfl)) (by unfold Func.isWrapper; first | (rw [if_pos (by decide +kernel)]; kernel_rfl) | (rw [if_neg (by decide +kernel)]; exact ⟨rfl, rfl⟩))
    (fun os started H enc _ F => by rw [OpenClaim.pre_eq_preRow]; exact lifted os started H enc F)
theorem plain (f : FuncId) (fn : Func) (hf : Tryd.pinned.checked.prog.funcNamed Rows.orderedRow.func = some f) (hfn : Tryd.pinned.checked.prog.funcs[f]? = some fn) :
    true = Tryd.pinned.checked.prog.looks [] ∧ ∀ (j : Nat) t, fn.params[j]? = some t → Tryd.pinned.checked.prog.wantsStandIn t = false := by
  obtain rfl : f = 6 := Option.some.inj ((show Tryd.prog.funcNamed Rows.orderedRow.func = some 6 by kernel_rfl).symm.trans hf) |>.symm
  obtain rfl : fn = Tryd.f6 := (Option.some.inj (Tryd.func6.symm.trans hfn)).symm
  refine ⟨by kernel_rfl, fun j t ht => ?_⟩
  rw [Tryd.params6] at ht
  obtain rfl : t = 3 := by simpa using Array.mem_of_getElem? ht
  exact (show Tryd.prog.wantsStandIn 3 = false by kernel_rfl)
/-- THE CARD. -/
theorem ordered_card : Rows.OrderedCardSaid :=
  Claim7.holds_tied_plain_at .later [] _ _ _ _ ordered_said (fun _ h => by cases h) (by kernel_rfl) (fun _ h => by cases h) ordered_row_tie rfl ⟨rfl, rfl⟩ (by kernel_rfl) rfl plain (by kernel_rfl)
end Go.Proofs.YtknakfpciccoaaaDoor
