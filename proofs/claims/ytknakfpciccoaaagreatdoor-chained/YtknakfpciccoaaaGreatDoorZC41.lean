import Derived.Test.YtknakfpciccoaaaGreatDoorZC1
import Derived.Test.YtknakfpciccoaaaGreatDoorProg
import Derived.Deep.Strs
import Derived.SizedLaws
import Derived.ProofKit
import Derived.OpenShut
import Derived.Shelf.Unicode.ValidAny
import Derived.Test.YtknakfpciccoaaaGreatDoorCards
import Derived.Test.YtknakfpciccoaaaGreatDoorTie
import Derived.Lib.AppendIntMem
import Derived.Lib.LaidTab
import Derived.Stop.LaidErr
import Derived.ChangeMaps5
import Derived.Lib.LaidIn
import Derived.Lib.LaidU8T
import Derived.Deep.DeepHandedRow
import Derived.Deep.DeepWitnessRowRef
import Derived.Test.YtknakfpciccoaaaGreatDoorZC15
import Derived.Test.YtknakfpciccoaaaGreatDoorZC18
import Derived.Test.YtknakfpciccoaaaGreatDoorZC2
/- What is read of an argument: a tree, and where it lies. -/
namespace Go.Proofs.YtknakfpciccoaaaGreatDoor
open Go.ChangeShapes Go.WideShapes Go.ChangeAt Go.RowKit Go.Deep
section
variable {H : Type} {enc : TypeId × Value -> H} {W : World}
theorem TQ {a:Addr} {v:Value} (h:W.cell? a=some v):a=⟨a.block,a.off,none⟩:=by
 have:=World.cell?_spot h;cases a;simp only at this;rw [this]
theorem Da {a:Addr} {v:Value} (h:W.cell? a=some v):a.block<W.heap.size:=by
 rcases Nat.lt_or_ge a.block W.heap.size with h' | h'
 ·exact h'
 ·simp [World.cell?,Array.getElem?_eq_none h'] at h
end
end Go.Proofs.YtknakfpciccoaaaGreatDoor
/- The contract of utf8.ValidString, of the library's shelf, laid at this dump: the table of its numbers, and that each body is the one it was proved of.
-/
namespace Go.Proofs
open Go.Shelf
def Tryz.laysValid_ren:Go.Shelf.Ren:=⟨fun | 196=>160 | 259=>194 | n=>n,fun | 9=>9 | 4=>4 | 3=>3 | 5=>5 | 12=>12 | 119=>209 | 0=>0 | 46=>155 | 139=>212 | 138=>211 | 53=>127 | n=>n,fun | 3=>0 | 4=>1 | n=>n⟩
theorem Tryz.laysValid:Go.Proofs.Lays.n196 Tryz.prog Tryz.laysValid_ren:={
 mixed:=by kernel_rfl
 f196:=Tryz.func160.trans (congrArg some (by kernel_rfl))
 f259:=Tryz.func194.trans (congrArg some (by kernel_rfl))
 t0:=Tryz.underlying0
 a0:=Tryz.isAgg0
 z0:=Tryz.sizeOf0
 v0:=Tryz.zeroValue0
 t3:=Tryz.underlying3
 a3:=Tryz.isAgg3
 z3:=Tryz.sizeOf3
 v3:=Tryz.zeroValue3
 t4:=Tryz.underlying4
 a4:=Tryz.isAgg4
 z4:=Tryz.sizeOf4
 v4:=Tryz.zeroValue4
 t5:=Tryz.underlying5
 a5:=Tryz.isAgg5
 z5:=Tryz.sizeOf5
 v5:=Tryz.zeroValue5
 t9:=Tryz.underlying9
 a9:=Tryz.isAgg9
 z9:=Tryz.sizeOf9
 v9:=Tryz.zeroValue9
 t12:=Tryz.underlying12
 a12:=Tryz.isAgg12
 z12:=Tryz.sizeOf12
 v12:=Tryz.zeroValue12
 t46:=Tryz.underlying155
 a46:=Tryz.isAgg155
 z46:=Tryz.sizeOf155
 v46:=Tryz.zeroValue155
 t53:=Tryz.underlying127
 a53:=Tryz.isAgg127
 z53:=Tryz.sizeOf127
 v53:=Tryz.zeroValue127
 t119:=Tryz.underlying209
 a119:=Tryz.isAgg209
 z119:=Tryz.sizeOf209
 t138:=Tryz.underlying211
 a138:=Tryz.isAgg211
 z138:=Tryz.sizeOf211
 v138:=Tryz.zeroValue211
 t139:=Tryz.underlying212
 a139:=Tryz.isAgg212
 z139:=Tryz.sizeOf212
 v139:=Tryz.zeroValue212
 g3:=by kernel_rfl
 g4:=by kernel_rfl }
end Go.Proofs
/- The tables that the seat's rows lay, in memory; what a row asks of the program alone. -/
namespace Go.Proofs.YtknakfpciccoaaaGreatDoor
open Go.ChangeShapes Go.WideShapes Go.ChangeAt Go.RowKit Go.Lib Go.Shelf
open Go.ChangeMaps (open_string shut_string)
def F4 (w:World) (g:Nat):Prop:=∃ te pe,w.cell? ⟨g,0,none⟩=some (.iface te pe)
def Db (w:World):Prop:=Lib.Utf8Tabs 0 1 w/\F4 w 5/\F4 w 6/\Lib.TabIs Tryz.prog w "internal/strconv.uint64pow10" .u64 Lib.pow10Tab
theorem Yb {n:String} {cs:Array Value} {w0 w w':World} {cs0:Array Value} (h0:w0.var? Tryz.prog n=some cs0) (h:w.var? Tryz.prog n=some cs) (hb:Below w0.heap.size w w'):w'.var? Tryz.prog n=some cs:=by
 unfold World.var? at h0 h ⊢;cases hg:Tryz.prog.globalNamed n with
 | none=>simp [hg] at h
 | some g =>
  simp only [hg,Option.bind_some] at h0 h ⊢
  have hlt:g<w0.heap.size:=by
   rcases Nat.lt_or_ge g w0.heap.size with h' | h'
   ·exact h'
   ·simp [Array.getElem?_eq_none h'] at h0
  rw [hb.block g hlt];exact h
theorem TR:aV Db:=by
 intro w0 h0 w w' h hb
 have lt:∀ {a:Addr} {v:Value},w0.cell? a=some v->a.block<w0.heap.size:=fun {a v} hc=>by
  rcases Nat.lt_or_ge a.block w0.heap.size with h' | h'
  ·exact h'
  ·simp [World.cell?,Array.getElem?_eq_none h'] at hc
 have err:∀ {g:Nat},F4 w0 g->F4 w g->F4 w' g:=fun {g} h1 h2=>by
  obtain ⟨t1,p1,e1⟩:=h1;obtain ⟨t2,p2,e2⟩:=h2;exact ⟨t2,p2,(hb.cell (lt e1)).trans e2⟩
 exact ⟨⟨fun c hc=>(hb.cell (lt (h0.1.1 c hc))).trans (h.1.1 c hc),fun i hi=>⟨(hb.cell (lt (h0.1.2 i hi).1)).trans (h.1.2 i hi).1,(hb.cell (lt (h0.1.2 i hi).2)).trans (h.1.2 i hi).2⟩⟩,err h0.2.1 h.2.1,err h0.2.2.1 h.2.2.1,Yb h0.2.2.2 h.2.2.2 hb⟩
theorem Yc:cu Db:=fun s w hT=>by
 have:=Any.utf8_DecodeRuneInString Tryz.laysDecode s w hT.1;refine this.mono ?_;rintro e w' ⟨rfl,hb⟩;refine ⟨?_,hb⟩;unfold mG Lib.decodeGo;split<;>rfl
theorem zG (w:World) (e:TypeId) (s:ByteArray):Below w.heap.size w (Lib.bytesWorld w e s) :=
 ⟨rfl,rfl,rfl,by rw [Lib.bytesWorld_size];omega,fun j hj=>Lib.bytesWorld_at_old w e s j hj⟩
theorem Yd:dK Db:=fun s w hs hT=>by
 cases hp:Lib.parseIntB 64 s.data.toList with
 | ok v =>
  refine (Any.strconv_ParseInt_10_at64_ok Tryz.laysParseInt s (by omega) v hp w).mono ?_;rintro e w' ⟨rfl,hb⟩;refine ⟨?_,Or.inl ⟨v,rfl,rfl⟩⟩;rcases hb with rfl | ⟨x,rfl⟩
  ·exact Below.refl _ _
  ·refine (Below.refl w.heap.size w).trans ?_;exact zG w _ x
 | «syntax» =>
  obtain ⟨te,pe,he⟩:=hT.2.1;refine (Any.strconv_ParseInt_10_at64_syntax Tryz.laysParseInt s (by omega) hp (.iface te pe) w he (Or.inr ⟨te,pe,rfl⟩)).mono ?_;rintro e w' ⟨N,rfl,_,_,hb⟩;exact ⟨hb,Or.inr ⟨Or.inl rfl,_,_,_,rfl⟩⟩
 | range =>
  obtain ⟨te,pe,he⟩:=hT.2.2.1;refine (Any.strconv_ParseInt_10_at64_range Tryz.laysParseInt s (by omega) hp (.iface te pe) w he (Or.inr ⟨te,pe,rfl⟩)).mono ?_;rintro e w' ⟨N,rfl,_,_,hb⟩;exact ⟨hb,Or.inr ⟨Or.inr rfl,_,_,_,rfl⟩⟩
theorem Pm:bF Db:=fun s w hs hT=>Any.utf8_ValidString Tryz.laysValid s w hs hT.1
theorem Ye:qE Db:=fun n w h0 h1 hT=>by
 refine (Any.strconv_FormatInt_10 Tryz.laysFormat n h0 h1 w hT.2.2.2).mono ?_;rintro e w' ⟨rfl,k,os,rfl⟩;exact ⟨rfl,Lib.below_grow _ _ (Nat.le_refl _) _ _⟩
theorem Yf:ownKnob Tryz.prog.godebug=none:=by kernel_rfl
def Df:DataW Unit->List Value
 | .agg l=>l.map fun | .lit (.int k n)=>Value.int k n | _=>.nilIface
 | _=>[]
abbrev agb:ByteArray:=⟨#[105,110,118,97,108,105,100,32,115,121,110,116,97,120]⟩
abbrev agc:ByteArray:=⟨#[118,97,108,117,101,32,111,117,116,32,111,102,32,114,97,110,103,101]⟩
def Pn (h:Array Obj) (g:Nat) (cs:List Value):Array Obj:=h.modify g fun | .cells _ t frozen=>.cells cs.toArray t frozen | o=>o
noncomputable def agd:Nat:=(World.holding Tryz.prog default ⟨#[],#[],[]⟩).heap.size
noncomputable def xM (os:Os):World :=
 { World.holding Tryz.prog os ⟨#[.cells #[.string agb] 328,.cells #[.string agc] 328],#[],[]⟩ with
  heap:=Pn (Pn (Pn (Pn (Pn (Pn (Pn (World.holding Tryz.prog os ⟨#[.cells #[.string agb] 328,.cells #[.string agc] 328],#[],[]⟩).heap
   0 (Lib.firstTab.map fun z=>Value.int .u8 z)) 1 ((List.range 16).flatMap fun i=>[Value.int .u8 (Lib.accLo i),Value.int .u8 (Lib.accHi i)]))
   2 (Df Rows.laid_internal_strconv_uint64pow10)) 3 (Df Rows.laid_math_bits_deBruijn32tab)) 4 (Df Rows.laid_math_bits_deBruijn64tab))
   5 [.iface 326 (.pointer (some ⟨agd,0,none⟩))]) 6 [.iface 326 (.pointer (some ⟨agd+1,0,none⟩))] }
abbrev F5:List (String×DataW Unit):=Rows.printsRow.laid
theorem Yg (os:Os) (args:Array Value):laidMet Tryz.prog F5 ((xM os).forCall (fun _ _=>0) ⟨#[],args,[]⟩).memory :=
 (LaidIn.of_run (l:=F5) (List.range 40) 8 (by kernel_rfl) (by kernel_rfl) (by kernel_rfl) (by kernel_rfl)).met
theorem Po:Rows.laid_unicode_utf8_first=Lib.firstData:=by kernel_rfl
theorem Mg:(Rows.laid_unicode_utf8_acceptRanges:DataW Unit)=Lib.acceptData:=by kernel_rfl
theorem agf : "*" ++ "errors.errorString" = "*errors.errorString" := by decide
theorem aar (u:TypeId) (h:Tryz.prog.typeName? 3 u=some "*errors.errorString"):u=326 :=
 typeName_ptr_named (nm := "errors.errorString") (by rw [agf];kernel_rfl) (by kernel_rfl) (by decide) u (by rw [agf];exact h)
theorem Yh {n:String} {g:Nat} {text:List UInt8} {r:List (String×DataW Unit)} {W:World} (h:laidMet Tryz.prog ((n,.iface "*errors.errorString" (.ptr (.agg [.lit (.string text)])))::r) W)
  (hg:Tryz.prog.globalNamed n=some g) (ht:(Tryz.prog.globals[g]?).map (·.type)=some 116):F4 W g:=by
 obtain ⟨a,s,hv,_⟩:=laid_sentinel h hg ht Tryz.underlying116 aar Tryz.underlying326 Tryz.underlying328 rfl rfl Tryz.underlying9 (by kernel_rfl) (by kernel_rfl);exact ⟨_,_,by simpa using World.var?_cell hg hv 0⟩
theorem Yi:(Rows.laid_internal_strconv_uint64pow10:DataW Unit)=Lib.tabData .u64 Lib.pow10Tab:=by kernel_rfl
theorem aas {W:World} (hL:laidMetH Tryz.prog F5 W):Db W:=by
 have hM:laidMet Tryz.prog F5 W:=hL;have h1:=Lib.laidMet.reads hL (.tail _ (.tail _ (.tail _ (.head _))));have h2:=Lib.laidMet.reads hL (.tail _ (.tail _ (.tail _ (.tail _ (.tail _ (.tail _ (.head _)))))));rw [Mg] at h1;rw [Po] at h2;have hr:=hM.tail.tail.tail.tail;refine ⟨utf8Tabs_of_readsT (U8Types.of260 { Tryz.laysDecode with }) ⟨by kernel_rfl,by kernel_rfl,by kernel_rfl,by kernel_rfl,by kernel_rfl,by kernel_rfl,by kernel_rfl⟩ h2 h1,Yh hr.tail (by kernel_rfl) (by kernel_rfl),Yh hr (by kernel_rfl) (by kernel_rfl),?_⟩;have hp:laidMet Tryz.prog (("internal/strconv.uint64pow10",Rows.laid_internal_strconv_uint64pow10)::F5.tail.tail.tail) W:=hM.tail.tail;rw [Yi] at hp;exact Lib.tabIs_of_head (g:=2) (by kernel_rfl) (by kernel_rfl) Tryz.underlying215 Tryz.underlying127 (by kernel_rfl) (by kernel_rfl) hp
theorem dF {a b:Bool} (h:a=true) (k:b=true):(a&&b)=true:=by rw [h,k];rfl
theorem jf1:(laidOutB Tryz.pinned.checked.prog)=true:=by kernel_rfl
theorem jf2:(mapsRowed Tryz.pinned.checked.prog)=true:=by kernel_rfl
theorem jf6:((Tryz.pinned.checked.prog.stops==[]))=true:=by kernel_rfl
theorem jf8:((Tryz.pinned.checked.prog.stopKnobs==[]))=true:=by kernel_rfl
theorem aiZ:(Tryz.pinned.checked.prog.stopsHeard)=true:=by kernel_rfl
theorem ai0:(Tryz.pinned.checked.prog.mayEnter)=true:=by kernel_rfl
end Go.Proofs.YtknakfpciccoaaaGreatDoor
