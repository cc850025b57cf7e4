import Derived.Test.YtknakfpciccoaaaGreatDoorCards
import Derived.Test.YtknakfpciccoaaaGreatDoorTie
import Derived.Test.YtknakfpciccoaaaGreatDoorZF2
import Derived.Lib.AppendIntMem
import Derived.Lib.LaidTab
import Derived.Stop.LaidErr
import Derived.ChangeMaps5
import Derived.Lib.LaidIn
import Derived.Lib.LaidU8T
import Derived.Deep.DeepHandedRow
import Derived.Deep.DeepWitnessRowRef
import Derived.ProofKit
import Derived.SizedLaws
import Derived.OpenShut
import Derived.Test.YtknakfpciccoaaaGreatDoorZF7
import Derived.Test.YtknakfpciccoaaaGreatDoorZF12
import Derived.Test.YtknakfpciccoaaaGreatDoorZF11
/- The tables that the seat's rows lay, in memory; what a row asks of the program alone. -/
namespace Go.Proofs.YtknakfpciccoaaaGreatDoor
open Go.ChangeShapes Go.WideShapes Go.ChangeAt Go.RowKit Go.Lib Go.Shelf
open Go.ChangeMaps (open_string shut_string)
def DX (w:World) (g:Nat):Prop:=∃ te pe,w.cell? ⟨g,0,none⟩=some (.iface te pe)
def Ba (w:World):Prop:=Lib.Utf8Tabs 0 1 w/\DX w 5/\DX w 6/\Lib.TabIs Tryz.prog w "internal/strconv.uint64pow10" .u64 Lib.pow10Tab
theorem RH {n:String} {cs:Array Value} {w0 w w':World} {cs0:Array Value} (h0:w0.var? Tryz.prog n=some cs0) (h:w.var? Tryz.prog n=some cs) (hb:Below w0.heap.size w w'):w'.var? Tryz.prog n=some cs:=by
 unfold World.var? at h0 h ⊢;cases hg:Tryz.prog.globalNamed n with
 | none=>simp [hg] at h
 | some g =>
  simp only [hg,Option.bind_some] at h0 h ⊢
  have hlt:g<w0.heap.size:=by
   rcases Nat.lt_or_ge g w0.heap.size with h' | h'
   ·exact h'
   ·simp [Array.getElem?_eq_none h'] at h0
  rw [hb.block g hlt];exact h
theorem OM:fG Ba:=by
 intro w0 h0 w w' h hb
 have lt:∀ {a:Addr} {v:Value},w0.cell? a=some v->a.block<w0.heap.size:=fun {a v} hc=>by
  rcases Nat.lt_or_ge a.block w0.heap.size with h' | h'
  ·exact h'
  ·simp [World.cell?,Array.getElem?_eq_none h'] at hc
 have err:∀ {g:Nat},DX w0 g->DX w g->DX w' g:=fun {g} h1 h2=>by
  obtain ⟨t1,p1,e1⟩:=h1;obtain ⟨t2,p2,e2⟩:=h2;exact ⟨t2,p2,(hb.cell (lt e1)).trans e2⟩
 exact ⟨⟨fun c hc=>(hb.cell (lt (h0.1.1 c hc))).trans (h.1.1 c hc),fun i hi=>⟨(hb.cell (lt (h0.1.2 i hi).1)).trans (h.1.2 i hi).1,(hb.cell (lt (h0.1.2 i hi).2)).trans (h.1.2 i hi).2⟩⟩,err h0.2.1 h.2.1,err h0.2.2.1 h.2.2.1,RH h0.2.2.2 h.2.2.2 hb⟩
theorem RI:bS Ba:=fun s w hT=>by
 have:=Any.utf8_DecodeRuneInString Tryz.laysDecode s w hT.1;refine this.mono ?_;rintro e w' ⟨rfl,hb⟩;refine ⟨?_,hb⟩;unfold mJ Lib.decodeGo;split<;>rfl
theorem yt (w:World) (e:TypeId) (s:ByteArray):Below w.heap.size w (Lib.bytesWorld w e s) :=
 ⟨rfl,rfl,rfl,by rw [Lib.bytesWorld_size];omega,fun j hj=>Lib.bytesWorld_at_old w e s j hj⟩
theorem RJ:dz Ba:=fun s w hs hT=>by
 cases hp:Lib.parseIntB 64 s.data.toList with
 | ok v =>
  refine (Any.strconv_ParseInt_10_at64_ok Tryz.laysParseInt s (by omega) v hp w).mono ?_;rintro e w' ⟨rfl,hb⟩;refine ⟨?_,Or.inl ⟨v,rfl,rfl⟩⟩;rcases hb with rfl | ⟨x,rfl⟩
  ·exact Below.refl _ _
  ·refine (Below.refl w.heap.size w).trans ?_;exact yt w _ x
 | «syntax» =>
  obtain ⟨te,pe,he⟩:=hT.2.1;refine (Any.strconv_ParseInt_10_at64_syntax Tryz.laysParseInt s (by omega) hp (.iface te pe) w he (Or.inr ⟨te,pe,rfl⟩)).mono ?_;rintro e w' ⟨N,rfl,_,_,hb⟩;exact ⟨hb,Or.inr ⟨Or.inl rfl,_,_,_,rfl⟩⟩
 | range =>
  obtain ⟨te,pe,he⟩:=hT.2.2.1;refine (Any.strconv_ParseInt_10_at64_range Tryz.laysParseInt s (by omega) hp (.iface te pe) w he (Or.inr ⟨te,pe,rfl⟩)).mono ?_;rintro e w' ⟨N,rfl,_,_,hb⟩;exact ⟨hb,Or.inr ⟨Or.inr rfl,_,_,_,rfl⟩⟩
theorem KG:dL Ba:=fun s w hs hT=>Any.utf8_ValidString Tryz.laysValid s w hs hT.1
theorem RN:pU Ba:=fun n w h0 h1 hT=>by
 refine (Any.strconv_FormatInt_10 Tryz.laysFormat n h0 h1 w hT.2.2.2).mono ?_;rintro e w' ⟨rfl,k,os,rfl⟩;exact ⟨rfl,Lib.below_grow _ _ (Nat.le_refl _) _ _⟩
theorem RO:ownKnob Tryz.prog.godebug=none:=by kernel_rfl
def Bb:DataW Unit->List Value
 | .agg l=>l.map fun | .lit (.int k n)=>Value.int k n | _=>.nilIface
 | _=>[]
abbrev ZH:ByteArray:=⟨#[105,110,118,97,108,105,100,32,115,121,110,116,97,120]⟩
abbrev ZI:ByteArray:=⟨#[118,97,108,117,101,32,111,117,116,32,111,102,32,114,97,110,103,101]⟩
def qF (h:Array Obj) (g:Nat) (cs:List Value):Array Obj:=h.modify g fun | .cells _ t frozen=>.cells cs.toArray t frozen | o=>o
noncomputable def ZJ:Nat:=(World.holding Tryz.prog default ⟨#[],#[],[]⟩).heap.size
noncomputable def vH (os:Os):World :=
 { World.holding Tryz.prog os ⟨#[.cells #[.string ZH] 328,.cells #[.string ZI] 328],#[],[]⟩ with
  heap:=qF (qF (qF (qF (qF (qF (qF (World.holding Tryz.prog os ⟨#[.cells #[.string ZH] 328,.cells #[.string ZI] 328],#[],[]⟩).heap
   0 (Lib.firstTab.map fun z=>Value.int .u8 z)) 1 ((List.range 16).flatMap fun i=>[Value.int .u8 (Lib.accLo i),Value.int .u8 (Lib.accHi i)]))
   2 (Bb Rows.laid_internal_strconv_uint64pow10)) 3 (Bb Rows.laid_math_bits_deBruijn32tab)) 4 (Bb Rows.laid_math_bits_deBruijn64tab))
   5 [.iface 326 (.pointer (some ⟨ZJ,0,none⟩))]) 6 [.iface 326 (.pointer (some ⟨ZJ+1,0,none⟩))] }
abbrev DY:List (String×DataW Unit):=Rows.printsRow.laid
theorem RP (os:Os) (args:Array Value):laidMet Tryz.prog DY ((vH os).forCall (fun _ _=>0) ⟨#[],args,[]⟩).memory :=
 (LaidIn.of_run (l:=DY) (List.range 40) 8 (by kernel_rfl) (by kernel_rfl) (by kernel_rfl) (by kernel_rfl)).met
theorem KH:Rows.laid_unicode_utf8_first=Lib.firstData:=by kernel_rfl
theorem Ij:(Rows.laid_unicode_utf8_acceptRanges:DataW Unit)=Lib.acceptData:=by kernel_rfl
theorem ZK : "*" ++ "errors.errorString" = "*errors.errorString" := by decide
theorem Vi (u:TypeId) (h:Tryz.prog.typeName? 3 u=some "*errors.errorString"):u=326 :=
 typeName_ptr_named (nm := "errors.errorString") (by rw [ZK];kernel_rfl) (by kernel_rfl) (by decide) u (by rw [ZK];exact h)
theorem RQ {n:String} {g:Nat} {text:List UInt8} {r:List (String×DataW Unit)} {W:World} (h:laidMet Tryz.prog ((n,.iface "*errors.errorString" (.ptr (.agg [.lit (.string text)])))::r) W)
  (hg:Tryz.prog.globalNamed n=some g) (ht:(Tryz.prog.globals[g]?).map (·.type)=some 116):DX W g:=by
 obtain ⟨a,s,hv,_⟩:=laid_sentinel h hg ht Tryz.underlying116 Vi Tryz.underlying326 Tryz.underlying328 rfl rfl Tryz.underlying9 (by kernel_rfl) (by kernel_rfl);exact ⟨_,_,by simpa using World.var?_cell hg hv 0⟩
theorem RS:(Rows.laid_internal_strconv_uint64pow10:DataW Unit)=Lib.tabData .u64 Lib.pow10Tab:=by kernel_rfl
theorem Vj {W:World} (hL:laidMetH Tryz.prog DY W):Ba W:=by
 have hM:laidMet Tryz.prog DY W:=hL;have h1:=Lib.laidMet.reads hL (.tail _ (.tail _ (.tail _ (.head _))));have h2:=Lib.laidMet.reads hL (.tail _ (.tail _ (.tail _ (.tail _ (.tail _ (.tail _ (.head _)))))));rw [Ij] at h1;rw [KH] at h2;have hr:=hM.tail.tail.tail.tail;refine ⟨utf8Tabs_of_readsT (U8Types.of260 { Tryz.laysDecode with }) ⟨by kernel_rfl,by kernel_rfl,by kernel_rfl,by kernel_rfl,by kernel_rfl,by kernel_rfl,by kernel_rfl⟩ h2 h1,RQ hr.tail (by kernel_rfl) (by kernel_rfl),RQ hr (by kernel_rfl) (by kernel_rfl),?_⟩;have hp:laidMet Tryz.prog (("internal/strconv.uint64pow10",Rows.laid_internal_strconv_uint64pow10)::DY.tail.tail.tail) W:=hM.tail.tail;rw [RS] at hp;exact Lib.tabIs_of_head (g:=2) (by kernel_rfl) (by kernel_rfl) Tryz.underlying215 Tryz.underlying127 (by kernel_rfl) (by kernel_rfl) hp
theorem bQ {a b:Bool} (h:a=true) (k:b=true):(a&&b)=true:=by rw [h,k];rfl
theorem jf1:(laidOutB Tryz.pinned.checked.prog)=true:=by kernel_rfl
theorem jf2:(mapsRowed Tryz.pinned.checked.prog)=true:=by kernel_rfl
theorem jf6:((Tryz.pinned.checked.prog.stops==[]))=true:=by kernel_rfl
theorem jf8:((Tryz.pinned.checked.prog.stopKnobs==[]))=true:=by kernel_rfl
theorem ach:(Tryz.pinned.checked.prog.stopsHeard)=true:=by kernel_rfl
theorem aci:(Tryz.pinned.checked.prog.mayEnter)=true:=by kernel_rfl
end Go.Proofs.YtknakfpciccoaaaGreatDoor
