import Derived.Test.YtknakfpciccoaabGreatDoorZL1
import Derived.Test.YtknakfpciccoaabGreatDoorProg
import Derived.Deep.Strs
import Derived.SizedLaws
import Derived.ProofKit
import Derived.OpenShut
import Derived.Shelf.Unicode.ValidAny
import Derived.Test.YtknakfpciccoaabGreatDoorCards
import Derived.Test.YtknakfpciccoaabGreatDoorTie
import Derived.Lib.AppendIntMem
import Derived.Lib.LaidTab
import Derived.Stop.LaidErr
import Derived.ChangeMaps5
import Derived.Lib.LaidIn
import Derived.Lib.LaidU8T
import Derived.Deep.DeepHandedRow
import Derived.Deep.DeepWitnessRowRef
import Derived.Test.YtknakfpciccoaabGreatDoorZL15
import Derived.Test.YtknakfpciccoaabGreatDoorZL18
import Derived.Test.YtknakfpciccoaabGreatDoorZL2
/- What is read of an argument: a tree, and where it lies. -/
namespace Go.Proofs.YtknakfpciccoaabGreatDoor
open Go.ChangeShapes Go.WideShapes Go.ChangeAt Go.RowKit Go.Deep
section
variable {H : Type} {enc : TypeId × Value -> H} {W : World}
theorem Tg {a:Addr} {v:Value} (h:W.cell? a=some v):a=⟨a.block,a.off,none⟩:=by
 have:=World.cell?_spot h;cases a;simp only at this;rw [this]
theorem Ct {a:Addr} {v:Value} (h:W.cell? a=some v):a.block<W.heap.size:=by
 rcases Nat.lt_or_ge a.block W.heap.size with h' | h'
 ·exact h'
 ·simp [World.cell?,Array.getElem?_eq_none h'] at h
end
end Go.Proofs.YtknakfpciccoaabGreatDoor
/- The contract of utf8.ValidString, of the library's shelf, laid at this dump: the table of its numbers, and that each body is the one it was proved of.
-/
namespace Go.Proofs
open Go.Shelf
def Tryz.laysValid_ren:Go.Shelf.Ren:=⟨fun | 196=>114 | 259=>140 | n=>n,fun | 9=>9 | 4=>4 | 3=>3 | 5=>5 | 12=>12 | 119=>198 | 0=>0 | 46=>148 | 139=>201 | 138=>200 | 53=>112 | n=>n,fun | 3=>1 | 4=>2 | n=>n⟩
theorem Tryz.laysValid:Go.Proofs.Lays.n196 Tryz.prog Tryz.laysValid_ren:={
 mixed:=by kernel_rfl
 f196:=Tryz.func114.trans (congrArg some (by kernel_rfl))
 f259:=Tryz.func140.trans (congrArg some (by kernel_rfl))
 t0:=Tryz.underlying0
 a0:=Tryz.isAgg0
 z0:=Tryz.sizeOf0
 v0:=Tryz.zeroValue0
 t3:=Tryz.underlying3
 a3:=Tryz.isAgg3
 z3:=Tryz.sizeOf3
 v3:=Tryz.zeroValue3
 t4:=Tryz.underlying4
 a4:=Tryz.isAgg4
 z4:=Tryz.sizeOf4
 v4:=Tryz.zeroValue4
 t5:=Tryz.underlying5
 a5:=Tryz.isAgg5
 z5:=Tryz.sizeOf5
 v5:=Tryz.zeroValue5
 t9:=Tryz.underlying9
 a9:=Tryz.isAgg9
 z9:=Tryz.sizeOf9
 v9:=Tryz.zeroValue9
 t12:=Tryz.underlying12
 a12:=Tryz.isAgg12
 z12:=Tryz.sizeOf12
 v12:=Tryz.zeroValue12
 t46:=Tryz.underlying148
 a46:=Tryz.isAgg148
 z46:=Tryz.sizeOf148
 v46:=Tryz.zeroValue148
 t53:=Tryz.underlying112
 a53:=Tryz.isAgg112
 z53:=Tryz.sizeOf112
 v53:=Tryz.zeroValue112
 t119:=Tryz.underlying198
 a119:=Tryz.isAgg198
 z119:=Tryz.sizeOf198
 t138:=Tryz.underlying200
 a138:=Tryz.isAgg200
 z138:=Tryz.sizeOf200
 v138:=Tryz.zeroValue200
 t139:=Tryz.underlying201
 a139:=Tryz.isAgg201
 z139:=Tryz.sizeOf201
 v139:=Tryz.zeroValue201
 g3:=by kernel_rfl
 g4:=by kernel_rfl }
end Go.Proofs
/- The tables that the seat's rows lay, in memory; what a row asks of the program alone. -/
namespace Go.Proofs.YtknakfpciccoaabGreatDoor
open Go.ChangeShapes Go.WideShapes Go.ChangeAt Go.RowKit Go.Lib Go.Shelf
open Go.ChangeMaps (open_string shut_string)
def FJ (w:World) (g:Nat):Prop:=∃ te pe,w.cell? ⟨g,0,none⟩=some (.iface te pe)
def Cu (w:World):Prop:=Lib.Utf8Tabs 1 2 w/\FJ w 5/\FJ w 6/\Lib.TabIs Tryz.prog w "internal/strconv.uint64pow10" .u64 Lib.pow10Tab
theorem Yb {n:String} {cs:Array Value} {w0 w w':World} {cs0:Array Value} (h0:w0.var? Tryz.prog n=some cs0) (h:w.var? Tryz.prog n=some cs) (hb:Below w0.heap.size w w'):w'.var? Tryz.prog n=some cs:=by
 unfold World.var? at h0 h ⊢;cases hg:Tryz.prog.globalNamed n with
 | none=>simp [hg] at h
 | some g =>
  simp only [hg,Option.bind_some] at h0 h ⊢
  have hlt:g<w0.heap.size:=by
   rcases Nat.lt_or_ge g w0.heap.size with h' | h'
   ·exact h'
   ·simp [Array.getElem?_eq_none h'] at h0
  rw [hb.block g hlt];exact h
theorem Ti:aS Cu:=by
 intro w0 h0 w w' h hb
 have lt:∀ {a:Addr} {v:Value},w0.cell? a=some v->a.block<w0.heap.size:=fun {a v} hc=>by
  rcases Nat.lt_or_ge a.block w0.heap.size with h' | h'
  ·exact h'
  ·simp [World.cell?,Array.getElem?_eq_none h'] at hc
 have err:∀ {g:Nat},FJ w0 g->FJ w g->FJ w' g:=fun {g} h1 h2=>by
  obtain ⟨t1,p1,e1⟩:=h1;obtain ⟨t2,p2,e2⟩:=h2;exact ⟨t2,p2,(hb.cell (lt e1)).trans e2⟩
 exact ⟨⟨fun c hc=>(hb.cell (lt (h0.1.1 c hc))).trans (h.1.1 c hc),fun i hi=>⟨(hb.cell (lt (h0.1.2 i hi).1)).trans (h.1.2 i hi).1,(hb.cell (lt (h0.1.2 i hi).2)).trans (h.1.2 i hi).2⟩⟩,err h0.2.1 h.2.1,err h0.2.2.1 h.2.2.1,Yb h0.2.2.2 h.2.2.2 hb⟩
theorem Yc:dn Cu:=fun s w hT=>by
 have:=Any.utf8_DecodeRuneInString Tryz.laysDecode s w hT.1;refine this.mono ?_;rintro e w' ⟨rfl,hb⟩;refine ⟨?_,hb⟩;unfold mO Lib.decodeGo;split<;>rfl
theorem zh (w:World) (e:TypeId) (s:ByteArray):Below w.heap.size w (Lib.bytesWorld w e s) :=
 ⟨rfl,rfl,rfl,by rw [Lib.bytesWorld_size];omega,fun j hj=>Lib.bytesWorld_at_old w e s j hj⟩
theorem Yd:dO Cu:=fun s w hs hT=>by
 cases hp:Lib.parseIntB 64 s.data.toList with
 | ok v =>
  refine (Any.strconv_ParseInt_10_at64_ok Tryz.laysParseInt s (by omega) v hp w).mono ?_;rintro e w' ⟨rfl,hb⟩;refine ⟨?_,Or.inl ⟨v,rfl,rfl⟩⟩;rcases hb with rfl | ⟨x,rfl⟩
  ·exact Below.refl _ _
  ·refine (Below.refl w.heap.size w).trans ?_;exact zh w _ x
 | «syntax» =>
  obtain ⟨te,pe,he⟩:=hT.2.1;refine (Any.strconv_ParseInt_10_at64_syntax Tryz.laysParseInt s (by omega) hp (.iface te pe) w he (Or.inr ⟨te,pe,rfl⟩)).mono ?_;rintro e w' ⟨N,rfl,_,_,hb⟩;exact ⟨hb,Or.inr ⟨Or.inl rfl,_,_,_,rfl⟩⟩
 | range =>
  obtain ⟨te,pe,he⟩:=hT.2.2.1;refine (Any.strconv_ParseInt_10_at64_range Tryz.laysParseInt s (by omega) hp (.iface te pe) w he (Or.inr ⟨te,pe,rfl⟩)).mono ?_;rintro e w' ⟨N,rfl,_,_,hb⟩;exact ⟨hb,Or.inr ⟨Or.inr rfl,_,_,_,rfl⟩⟩
theorem OP:bJ Cu:=fun s w hs hT=>Any.utf8_ValidString Tryz.laysValid s w hs hT.1
theorem Ye:qD Cu:=fun n w h0 h1 hT=>by
 refine (Any.strconv_FormatInt_10 Tryz.laysFormat n h0 h1 w hT.2.2.2).mono ?_;rintro e w' ⟨rfl,k,os,rfl⟩;exact ⟨rfl,Lib.below_grow _ _ (Nat.le_refl _) _ _⟩
theorem Yf:ownKnob Tryz.prog.godebug=none:=by kernel_rfl
def Cv:DataW Unit->List Value
 | .agg l=>l.map fun | .lit (.int k n)=>Value.int k n | _=>.nilIface
 | _=>[]
abbrev agz:ByteArray:=⟨#[105,110,118,97,108,105,100,32,115,121,110,116,97,120]⟩
abbrev agA:ByteArray:=⟨#[118,97,108,117,101,32,111,117,116,32,111,102,32,114,97,110,103,101]⟩
def OQ (h:Array Obj) (g:Nat) (cs:List Value):Array Obj:=h.modify g fun | .cells _ t frozen=>.cells cs.toArray t frozen | o=>o
noncomputable def agB:Nat:=(World.holding Tryz.prog default ⟨#[],#[],[]⟩).heap.size
noncomputable def xw (os:Os):World :=
 { World.holding Tryz.prog os ⟨#[.cells #[.string agz] 262,.cells #[.string agA] 262],#[],[]⟩ with
  heap:=OQ (OQ (OQ (OQ (OQ (OQ (OQ (World.holding Tryz.prog os ⟨#[.cells #[.string agz] 262,.cells #[.string agA] 262],#[],[]⟩).heap
   1 (Lib.firstTab.map fun z=>Value.int .u8 z)) 2 ((List.range 16).flatMap fun i=>[Value.int .u8 (Lib.accLo i),Value.int .u8 (Lib.accHi i)]))
   0 (Cv Rows.laid_internal_strconv_uint64pow10)) 3 (Cv Rows.laid_math_bits_deBruijn32tab)) 4 (Cv Rows.laid_math_bits_deBruijn64tab))
   5 [.iface 260 (.pointer (some ⟨agB,0,none⟩))]) 6 [.iface 260 (.pointer (some ⟨agB+1,0,none⟩))] }
abbrev FK:List (String×DataW Unit):=Rows.summedRow.laid
theorem Yg (os:Os) (args:Array Value):laidMet Tryz.prog FK ((xw os).forCall (fun _ _=>0) ⟨#[],args,[]⟩).memory :=
 (LaidIn.of_run (l:=FK) (List.range 40) 8 (by kernel_rfl) (by kernel_rfl) (by kernel_rfl) (by kernel_rfl)).met
theorem OT:Rows.laid_unicode_utf8_first=Lib.firstData:=by kernel_rfl
theorem LB:(Rows.laid_unicode_utf8_acceptRanges:DataW Unit)=Lib.acceptData:=by kernel_rfl
theorem agC : "*" ++ "errors.errorString" = "*errors.errorString" := by decide
theorem aaA (u:TypeId) (h:Tryz.prog.typeName? 3 u=some "*errors.errorString"):u=260 :=
 typeName_ptr_named (nm := "errors.errorString") (by rw [agC];kernel_rfl) (by kernel_rfl) (by decide) u (by rw [agC];exact h)
theorem Yh {n:String} {g:Nat} {text:List UInt8} {r:List (String×DataW Unit)} {W:World} (h:laidMet Tryz.prog ((n,.iface "*errors.errorString" (.ptr (.agg [.lit (.string text)])))::r) W)
  (hg:Tryz.prog.globalNamed n=some g) (ht:(Tryz.prog.globals[g]?).map (·.type)=some 137):FJ W g:=by
 obtain ⟨a,s,hv,_⟩:=laid_sentinel h hg ht Tryz.underlying137 aaA Tryz.underlying260 Tryz.underlying262 rfl rfl Tryz.underlying9 (by kernel_rfl) (by kernel_rfl);exact ⟨_,_,by simpa using World.var?_cell hg hv 0⟩
theorem Yi:(Rows.laid_internal_strconv_uint64pow10:DataW Unit)=Lib.tabData .u64 Lib.pow10Tab:=by kernel_rfl
theorem aaB {W:World} (hL:laidMetH Tryz.prog FK W):Cu W:=by
 have hM:laidMet Tryz.prog FK W:=hL;have h1:=Lib.laidMet.reads hL (.tail _ (.tail _ (.tail _ (.head _))));have h2:=Lib.laidMet.reads hL (.tail _ (.tail _ (.tail _ (.tail _ (.tail _ (.tail _ (.head _)))))));rw [LB] at h1;rw [OT] at h2;have hr:=hM.tail.tail.tail.tail;refine ⟨utf8Tabs_of_readsT (U8Types.of260 { Tryz.laysDecode with }) ⟨by kernel_rfl,by kernel_rfl,by kernel_rfl,by kernel_rfl,by kernel_rfl,by kernel_rfl,by kernel_rfl⟩ h2 h1,Yh hr.tail (by kernel_rfl) (by kernel_rfl),Yh hr (by kernel_rfl) (by kernel_rfl),?_⟩;have hp:laidMet Tryz.prog (("internal/strconv.uint64pow10",Rows.laid_internal_strconv_uint64pow10)::FK.tail.tail.tail) W:=hM.tail.tail;rw [Yi] at hp;exact Lib.tabIs_of_head (g:=0) (by kernel_rfl) (by kernel_rfl) Tryz.underlying145 Tryz.underlying112 (by kernel_rfl) (by kernel_rfl) hp
theorem dI {a b:Bool} (h:a=true) (k:b=true):(a&&b)=true:=by rw [h,k];rfl
theorem jf1:(laidOutB Tryz.pinned.checked.prog)=true:=by kernel_rfl
theorem jf2:(mapsRowed Tryz.pinned.checked.prog)=true:=by kernel_rfl
theorem jf6:((Tryz.pinned.checked.prog.stops==[]))=true:=by kernel_rfl
theorem jf8:((Tryz.pinned.checked.prog.stopKnobs==[]))=true:=by kernel_rfl
theorem ajf:(Tryz.pinned.checked.prog.stopsHeard)=true:=by kernel_rfl
theorem ajg:(Tryz.pinned.checked.prog.mayEnter)=true:=by kernel_rfl
end Go.Proofs.YtknakfpciccoaabGreatDoor
