import Derived.Test.YtknakfpciccoaabGreatDoorZS16
import Derived.Test.YtknakfpciccoaabGreatDoorZS6
import Derived.Shelf.LaysM
import Derived.Shelf.Strings.BuilderK
import Derived.Shelf.Strconv.Itoa4
import Derived.Test.YtknakfpciccoaabGreatDoorProg
import Derived.Test.YtknakfpciccoaabGreatDoorZS3
import Derived.Test.YtknakfpciccoaabGreatDoorZS7
import Derived.Test.YtknakfpciccoaabGreatDoorZS2
/- refusal.Attempt for filters; filter.Parse. -/
namespace Go.Proofs.YtknakfpciccoaabGreatDoor
open Go.RowKit
set_option maxHeartbeats 1000000 in
set_option maxRecDepth 100000 in
theorem catchF_refusal (be:Nat) (n:Int) (w:World) (x:Value) (h5:w.cell? ⟨be,0,none⟩=some x) (f5:w.frozen? ⟨be,0,none⟩=false) :
  CallsD Tryz.prog 115 #[.pointer (some ⟨be,0,none⟩)] (.panicking [{ v:=.iface 88 (.int .i64 n),recovered:=false }]) w fun e u' w' =>
   e=.returned (.tuple #[])∧u'=.panicking [{ v:=.iface 88 (.int .i64 n),recovered:=true }]∧w'=w.setCell ⟨be,0,none⟩ (.int .i64 n):=by
 refine callsD_of_wpS Tryz.func115 rfl fun c₀ cs hu=>?_
 apply wpS_seq
 apply wpS_region
 simp [wpOpsS,go_sem,recoverD,hu,Tryz.ntmps115,Exit.thenS]
 refine wpS_of_wp ?_
 have hta:=assert_refusal n
 have e:(#[Value.pointer (some { block:=be,off:=0 })]++(Array.replicate 10 undef).setIfInBounds 3 (Value.iface 88 (Value.int IntKind.i64 n)))=#[.pointer (some ⟨be,0,none⟩),undef,undef,undef,.iface 88 (.int .i64 n),undef,undef,undef,undef,undef,undef]:=rfl
 rw [e]
 go_wp2_with fail
 simp [bodyPostS,results,Tryz.results115]
set_option maxHeartbeats 1000000 in
set_option maxRecDepth 100000 in
theorem catchF_idle (be:Nat) (w:World) :
  CallsD Tryz.prog 115 #[.pointer (some ⟨be,0,none⟩)] .returning w fun e u' w'=>e=.returned (.tuple #[])∧u'=.returning∧w'=w:=by
 refine callsD_of_wpS Tryz.func115 rfl fun c₀ cs hu=>?_
 apply wpS_seq
 apply wpS_region
 simp [wpOpsS,go_sem,recoverD,hu,Tryz.ntmps115,Exit.thenS]
 refine wpS_of_wp ?_
 go_wp2_with fail
 cases c₀
 simp_all [bodyPostS,results,Tryz.results115]
def boxErr (w:World):World:=w.alloc (.cells #[.int .i64 0] 29)
theorem boxErr_facts (w:World):(boxErr w).cell? ⟨w.heap.size,0,none⟩=some (.int .i64 0)∧(boxErr w).frozen? ⟨w.heap.size,0,none⟩=false∧(boxErr w).heap.size=w.heap.size+1∧Below w.heap.size w (boxErr w) :=
 ⟨by simp [boxErr,go_sem],by simp [boxErr,go_sem],by simp [boxErr],(Below.refl _ _).alloc (Nat.le_refl _) _⟩
def EndsF (Q:Prop) (R:Value→World→Prop) (w:World) (e:Ending) (w':World):Prop :=
 Below w.heap.size w w'∧((∃ v,e=.returned v∧R v w')∨(Q∧e=refused 8))
set_option maxHeartbeats 1000000 in
set_option maxRecDepth 100000 in
theorem attemptF (g:Nat) (hg:∀ (a:Array Value) (w:World),(callFunc g a).run Tryz.prog w=.ok (.enter g a) w) (Q:Prop) (R:Value→World→Prop) (p:Value) (w:World)
  (h:Calls Tryz.prog g #[p] (boxErr w) (EndsF Q R (boxErr w))) :
  Calls Tryz.prog 83 #[.func (Fn.func g) #[] #[p]] w fun e w'=>Below w.heap.size w w'∧((∃ x w2,e=.returned (.tuple #[x,.int .i64 0])∧R x w2∧Above (w.heap.size+1) w2 w'∧Below w.heap.size w w2)∨(Q∧e=.returned (.tuple #[.slice none 0 0,.int .i64 8]))):=by
 have hmf:∀ (fn:Fn) (first cap:Array Value) (w:World),(Instr.makeFunc fn first cap).run Tryz.prog w=.ok (.func fn first cap) w:=fun _ _ _ _=>rfl
 have H:=hid h
 have HF:=hid (boxErr_facts w)
 clear h
 go_enter_defers Tryz.func83,Tryz.ntmps83
 go_wp2_with fail
 refine H.out.mono ?_
 rintro e w1 ⟨hb,hr⟩
 have l0:w.heap.size<(boxErr w).heap.size:=by have:=HF.out.2.2.1;omega
 have a5:=(hb.cell (p:=⟨w.heap.size,0,none⟩) l0).trans HF.out.1
 have z5:=(hb.frozen (p:=⟨w.heap.size,0,none⟩) l0).trans HF.out.2.1
 have HB:=hid (HF.out.2.2.2.trans (hb.mono HF.out.2.2.2.size))
 clear hb l0 H
 rcases hr with ⟨v,rfl,hR⟩ | ⟨hQ,rfl⟩
 ·have HR:=hid hR
  clear hR
  go_wp2_with fail
  refine leaves_cons (f:=115) (args:=#[.pointer (some ⟨w.heap.size,0,none⟩)]) (by simp) (by simp [go_sem]) ?_
  refine (catchF_idle w.heap.size _).mono ?_
  rintro e u' w'' ⟨rfl,rfl,rfl⟩
  simp only [Leaves,settle]
  refine ⟨_,by simp [results,Tryz.results83,go_sem, *],?_,Or.inl ⟨_,w1,rfl,HR.out,?_,HB.out⟩⟩
  ·exact HB.out.setCell (Nat.le_refl _) _
  ·exact (Above.refl _ _).set (by omega) _ _
 ·have HQ:=hid hQ
  clear hQ
  go_wp2_with fail
  refine leaves_cons (f:=115) (args:=#[.pointer (some ⟨w.heap.size,0,none⟩)]) (by simp) (by simp [go_sem]) ?_
  refine (catchF_refusal w.heap.size 8 _ _ a5 z5).mono ?_
  rintro e u' w'' ⟨rfl,rfl,rfl⟩
  simp only [settle]
  refine ⟨_,by simp [results,Tryz.results83,go_sem, *],?_,Or.inr ⟨HQ.out,rfl⟩⟩
  exact HB.out.setCell (Nat.le_refl _) _
def FilPost (w0:Org) (t:T) (w:World) (e:Ending) (w':World):Prop :=
 Below w.heap.size w w'∧((okFil 16 t=true∧∃ fv,e=.returned (.tuple #[fv,.int .i64 0])∧FilB w0 w' (newB w w') 16 fv t)∨(okFil 16 t=false∧e=.returned (.tuple #[.slice none 0 0,.int .i64 8])))
set_option maxHeartbeats 4000000 in
set_option maxRecDepth 100000 in
theorem fParseIn_any {Tb:World→Prop} (hS:SplitSaid Tb) (hL:Lies Tb) (w0:Org) (f:Nat) (v:Value) (t:T) (w:World) (hf:f≤16) (ha:At0 w0 f v t) (kj:okA t) (hb0:Below w0.w.heap.size w0.w w) (hT:Tb w) (p:Nat)
  (La Ka:Option Addr) (Lc Kc:Nat) (hv:v=.agg #[.int .i64 (kindOf t),.int .i64 (nOf t),.string (sOf t),.slice La (nL t) Lc,.slice Ka (nK t) Kc])
  (q0:w.cell? ⟨p,0,none⟩=some (.int .i64 (kindOf t))) (q1:w.cell? ⟨p,1,none⟩=some (.int .i64 (nOf t))) (q2:w.cell? ⟨p,2,none⟩=some (.string (sOf t))) (q3:w.cell? ⟨p,3,none⟩=some (.slice La (nL t) Lc)) (q4:w.cell? ⟨p,4,none⟩=some (.slice Ka (nK t) Kc)) :
  Calls Tryz.prog 84 #[.pointer (some ⟨p,0,none⟩)] w (EndsF (okFil 16 t=false) (fun fv w'=>okFil 16 t=true∧FilB w0 w' (newB w w') 16 fv t) w):=by
 subst hv
 have HC:=hid (pf_any hS hL w0 f 16 _ t w hf ha hf kj hb0 hT)
 clear ha kj hb0 hT hS hL hf
 go_enter Tryz.func84,Tryz.ntmps84
 go_wp2_with fail
 refine HC.out.mono ?_
 rintro e w3 ⟨b3,⟨hok,fv,rfl,hr⟩ | ⟨hok,rfl⟩⟩
 ·have HB3:=hid b3
  have HR:=hid hr
  have HK:=hid hok
  clear b3 hr hok
  go_wp2_with fail
  go_ret
  exact ⟨HB3.out,.inl ⟨_,rfl,HK.out,HR.out⟩⟩
 ·exact ⟨rfl,b3,.inr ⟨hok,rfl⟩⟩
set_option maxHeartbeats 4000000 in
set_option maxRecDepth 100000 in
theorem fParse_any {Tb:World→Prop} (hS:SplitSaid Tb) (hL:Lies Tb) (w0:Org) (f:Nat) (v:Value) (t:T) (w:World) (hf:f≤16) (ha:At0 w0 f v t) (kj:okA t) (hb0:Below w0.w.heap.size w0.w w) (hT:Tb w) :
  Calls Tryz.prog 55 #[v] w (FilPost w0 t w):=by
 have hmf:∀ (fn:Fn) (first cap:Array Value) (w:World),(Instr.makeFunc fn first cap).run Tryz.prog w=.ok (.func fn first cap) w:=fun _ _ _ _=>rfl
 obtain ⟨g1,La,Ka,Lc,Kc,hg1,hv,_,_,_⟩:=ha.open
 have HB1:Hid (Below w.heap.size w (w.alloc (.cells #[.int .i64 (kindOf t),.int .i64 (nOf t),.string (sOf t),.slice La (nL t) Lc,.slice Ka (nK t) Kc] 36))):=(Below.refl _ _).alloc (Nat.le_refl _) _
 have HE:=hid (boxErr_facts (w.alloc (.cells #[.int .i64 (kindOf t),.int .i64 (nOf t),.string (sOf t),.slice La (nL t) Lc,.slice Ka (nK t) Kc] 36)))
 have hbb:Below (w.heap.size+1) (w.alloc (.cells #[.int .i64 (kindOf t),.int .i64 (nOf t),.string (sOf t),.slice La (nL t) Lc,.slice Ka (nK t) Kc] 36)) (boxErr (w.alloc (.cells #[.int .i64 (kindOf t),.int .i64 (nOf t),.string (sOf t),.slice La (nL t) Lc,.slice Ka (nK t) Kc] 36))):=HE.out.2.2.2.mono (by simp)
 obtain ⟨q0,q1,q2,q3,q4,hz,hbw⟩:=box_facts hbb
 have HI:=hid (fParseIn_any hS hL w0 f v t (boxErr (w.alloc (.cells #[.int .i64 (kindOf t),.int .i64 (nOf t),.string (sOf t),.slice La (nL t) Lc,.slice Ka (nK t) Kc] 36))) hf ha kj (hb0.trans (hbw.mono hb0.size)) (hL w hT _ _ hT hbw) w.heap.size La Ka Lc Kc hv q0 q1 q2 q3 q4)
 have HA:=hid (attemptF 84 (fun _ _=>rfl) (okFil 16 t=false) _ (.pointer (some ⟨w.heap.size,0,none⟩)) _ HI.out)
 subst hv
 clear ha kj hb0 hT hS hL hf hbb q0 q1 q2 q3 q4 hz hbw HI
 go_enter Tryz.func55,Tryz.ntmps55
 go_wp2_with fail
 refine HA.out.mono ?_
 rintro e w3 ⟨b3,⟨x,w2,rfl,⟨hok,hr⟩,hab,hb2⟩ | ⟨hok,rfl⟩⟩
 ·have HB3:=hid (HB1.out.trans (b3.mono HB1.out.size))
  have HK:=hid hok
  have mv:∀ b,newB (boxErr (w.alloc (.cells #[.int .i64 (kindOf t),.int .i64 (nOf t),.string (sOf t),.slice La (nL t) Lc,.slice Ka (nK t) Kc] 36))) w2 b→w3.heap[b]?=w2.heap[b]?∧newB w w3 b:=fun b hb=>by
   have h1:=HE.out.2.2.1
   have h2:=hb.1
   have h3:=hab.size
   have h4:=hb.2
   have h5:(w.alloc (.cells #[.int .i64 (kindOf t),.int .i64 (nOf t),.string (sOf t),.slice La (nL t) Lc,.slice Ka (nK t) Kc] 36)).heap.size=w.heap.size+1:=by simp
   exact ⟨hab.block b (by omega),by omega,by omega⟩
  have HR:=hid (FilB.move (w0:=w0) mv 16 _ _ hr)
  clear b3 hr hok hab hb2 mv
  go_wp2_with fail
  refine bodyPost_ret (v:=.tuple #[x,.int .i64 0]) (by simp [results,Tryz.results55,go_sem, *]) rfl ?_
  exact ⟨HB3.out,.inl ⟨HK.out,_,rfl,HR.out⟩⟩
 ·have HB3:=hid (HB1.out.trans (b3.mono HB1.out.size))
  have HK:=hid hok
  clear b3 hok
  go_wp2_with fail
  refine bodyPost_ret (v:=.tuple #[.slice none 0 0,.int .i64 8]) (by simp [results,Tryz.results55,go_sem, *]) rfl ?_
  exact ⟨HB3.out,.inr ⟨HK.out,rfl⟩⟩
end Go.Proofs.YtknakfpciccoaabGreatDoor
/- Contracts of the library's shelf, laid at this dump: strings.Builder's WriteByte and WriteString, strconv.FormatInt. -/
namespace Go.Proofs
open Go.Shelf
def Tryz.laysWriteByte_ren:Go.Shelf.Ren:=⟨fun | 167=>130 | 240=>128 | 276=>151 | n=>n,fun | 0=>0 | 4=>4 | 5=>5 | 9=>9 | 20=>20 | 37=>98 | 70=>106 | 72=>108 | 75=>137 | 164=>222 | 80=>110 | n=>n,fun | n=>n⟩
theorem Tryz.laysWriteByte:Go.Proofs.Lays.n167 Tryz.prog Tryz.laysWriteByte_ren:={
 mixed:=by kernel_rfl
 f167:=Tryz.func130.trans (congrArg some (by kernel_rfl))
 f240:=Tryz.func128.trans (congrArg some (by kernel_rfl))
 f276:=Tryz.func151.trans (congrArg some (by kernel_rfl))
 t0:=Tryz.underlying0
 a0:=Tryz.isAgg0
 z0:=Tryz.sizeOf0
 v0:=Tryz.zeroValue0
 t4:=Tryz.underlying4
 a4:=Tryz.isAgg4
 z4:=Tryz.sizeOf4
 v4:=Tryz.zeroValue4
 t5:=Tryz.underlying5
 a5:=Tryz.isAgg5
 z5:=Tryz.sizeOf5
 v5:=Tryz.zeroValue5
 t9:=Tryz.underlying9
 a9:=Tryz.isAgg9
 z9:=Tryz.sizeOf9
 v9:=Tryz.zeroValue9
 t20:=Tryz.underlying20
 a20:=Tryz.isAgg20
 z20:=Tryz.sizeOf20
 v20:=Tryz.zeroValue20
 t37:=Tryz.underlying98
 a37:=Tryz.isAgg98
 z37:=Tryz.sizeOf98
 v37:=Tryz.zeroValue98
 t70:=Tryz.underlying106
 a70:=Tryz.isAgg106
 z70:=Tryz.sizeOf106
 v70:=Tryz.zeroValue106
 t72:=Tryz.underlying108
 a72:=Tryz.isAgg108
 z72:=Tryz.sizeOf108
 v72:=Tryz.zeroValue108
 t75:=Tryz.underlying137
 a75:=Tryz.isAgg137
 z75:=Tryz.sizeOf137
 v75:=Tryz.zeroValue137
 t164:=Tryz.underlying222
 a164:=Tryz.isAgg222
 z164:=Tryz.sizeOf222
 v164:=Tryz.zeroValue222 }
theorem Tryz.extraWriteByte:Go.Proofs.Builder.Extra Tryz.prog Tryz.laysWriteByte_ren:={
 sizeBuilder:=by kernel_rfl
 liesBuilder:=by kernel_rfl
 t5:=Tryz.underlying5
 a5:=Tryz.isAgg5
 z5:=Tryz.sizeOf5
 v5:=Tryz.zeroValue5
 infoByte:=by kernel_rfl
 cellsByte:=by kernel_rfl
 sizeByte:=by kernel_rfl
 neB5:=by decide }
def Tryz.laysWriteString_ren:Go.Shelf.Ren:=⟨fun | 166=>95 | 240=>128 | 276=>151 | n=>n,fun | 0=>0 | 3=>3 | 4=>4 | 9=>9 | 20=>20 | 37=>98 | 70=>106 | 72=>108 | 75=>137 | 164=>222 | 80=>110 | n=>n,fun | n=>n⟩
theorem Tryz.laysWriteString:Go.Proofs.Lays.n166 Tryz.prog Tryz.laysWriteString_ren:={
 mixed:=by kernel_rfl
 f166:=Tryz.func95.trans (congrArg some (by kernel_rfl))
 f240:=Tryz.func128.trans (congrArg some (by kernel_rfl))
 f276:=Tryz.func151.trans (congrArg some (by kernel_rfl))
 t0:=Tryz.underlying0
 a0:=Tryz.isAgg0
 z0:=Tryz.sizeOf0
 v0:=Tryz.zeroValue0
 t3:=Tryz.underlying3
 a3:=Tryz.isAgg3
 z3:=Tryz.sizeOf3
 v3:=Tryz.zeroValue3
 t4:=Tryz.underlying4
 a4:=Tryz.isAgg4
 z4:=Tryz.sizeOf4
 v4:=Tryz.zeroValue4
 t9:=Tryz.underlying9
 a9:=Tryz.isAgg9
 z9:=Tryz.sizeOf9
 v9:=Tryz.zeroValue9
 t20:=Tryz.underlying20
 a20:=Tryz.isAgg20
 z20:=Tryz.sizeOf20
 v20:=Tryz.zeroValue20
 t37:=Tryz.underlying98
 a37:=Tryz.isAgg98
 z37:=Tryz.sizeOf98
 v37:=Tryz.zeroValue98
 t70:=Tryz.underlying106
 a70:=Tryz.isAgg106
 z70:=Tryz.sizeOf106
 v70:=Tryz.zeroValue106
 t72:=Tryz.underlying108
 a72:=Tryz.isAgg108
 z72:=Tryz.sizeOf108
 v72:=Tryz.zeroValue108
 t75:=Tryz.underlying137
 a75:=Tryz.isAgg137
 z75:=Tryz.sizeOf137
 v75:=Tryz.zeroValue137
 t164:=Tryz.underlying222
 a164:=Tryz.isAgg222
 z164:=Tryz.sizeOf222
 v164:=Tryz.zeroValue222 }
theorem Tryz.extraWriteString:Go.Proofs.Builder.Extra Tryz.prog Tryz.laysWriteString_ren:={
 sizeBuilder:=by kernel_rfl
 liesBuilder:=by kernel_rfl
 t5:=Tryz.underlying5
 a5:=Tryz.isAgg5
 z5:=Tryz.sizeOf5
 v5:=Tryz.zeroValue5
 infoByte:=by kernel_rfl
 cellsByte:=by kernel_rfl
 sizeByte:=by kernel_rfl
 neB5:=by decide }
def Tryz.laysFormat_ren:Go.Shelf.Ren:=⟨fun | 173=>97 | 246=>42 | 283=>67 | 284=>68 | 285=>69 | 286=>70 | 129=>102 | 317=>101 | 318=>103 | 319=>104 | 320=>105 | 337=>131 | 338=>132 | n=>n,fun | 2=>2 | 3=>3 | 9=>9 | 4=>4 | 171=>111 | 0=>0 | 53=>112 | 37=>98 | 5=>5 | 173=>115 | 212=>145 | 51=>146 | 20=>20 | 213=>147 | 46=>148 | 232=>224 | 233=>225 | n=>n,fun | 17=>0 | 18=>3 | 19=>4 | n=>n⟩
theorem Tryz.laysFormat:Go.Proofs.LaysM.n173 Tryz.prog Tryz.laysFormat_ren:={
 mixed:=by kernel_rfl
 f129:=Tryz.func102.trans (congrArg some (by kernel_rfl))
 f173:=Tryz.func97.trans (congrArg some (by kernel_rfl))
 f246:=Tryz.func42.trans (congrArg some (by kernel_rfl))
 f283:=Tryz.func67.trans (congrArg some (by kernel_rfl))
 f284:=Tryz.func68.trans (congrArg some (by kernel_rfl))
 f285:=Tryz.func69.trans (congrArg some (by kernel_rfl))
 f286:=Tryz.func70.trans (congrArg some (by kernel_rfl))
 f317:=Tryz.func101.trans (congrArg some (by kernel_rfl))
 f318:=Tryz.func103.trans (congrArg some (by kernel_rfl))
 f319:=Tryz.func104.trans (congrArg some (by kernel_rfl))
 f320:=Tryz.func105.trans (congrArg some (by kernel_rfl))
 f337:=Tryz.func131.trans (congrArg some (by kernel_rfl))
 f338:=Tryz.func132.trans (congrArg some (by kernel_rfl))
 t0:=Tryz.underlying0
 a0:=Tryz.isAgg0
 z0:=Tryz.sizeOf0
 v0:=Tryz.zeroValue0
 t2:=Tryz.underlying2
 a2:=Tryz.isAgg2
 z2:=Tryz.sizeOf2
 v2:=Tryz.zeroValue2
 t3:=Tryz.underlying3
 a3:=Tryz.isAgg3
 z3:=Tryz.sizeOf3
 v3:=Tryz.zeroValue3
 t4:=Tryz.underlying4
 a4:=Tryz.isAgg4
 z4:=Tryz.sizeOf4
 v4:=Tryz.zeroValue4
 t5:=Tryz.underlying5
 a5:=Tryz.isAgg5
 z5:=Tryz.sizeOf5
 v5:=Tryz.zeroValue5
 t9:=Tryz.underlying9
 a9:=Tryz.isAgg9
 z9:=Tryz.sizeOf9
 v9:=Tryz.zeroValue9
 t20:=Tryz.underlying20
 a20:=Tryz.isAgg20
 z20:=Tryz.sizeOf20
 v20:=Tryz.zeroValue20
 t37:=Tryz.underlying98
 a37:=Tryz.isAgg98
 z37:=Tryz.sizeOf98
 v37:=Tryz.zeroValue98
 t46:=Tryz.underlying148
 a46:=Tryz.isAgg148
 z46:=Tryz.sizeOf148
 v46:=Tryz.zeroValue148
 t51:=Tryz.underlying146
 a51:=Tryz.isAgg146
 z51:=Tryz.sizeOf146
 v51:=Tryz.zeroValue146
 t53:=Tryz.underlying112
 a53:=Tryz.isAgg112
 z53:=Tryz.sizeOf112
 v53:=Tryz.zeroValue112
 t171:=Tryz.underlying111
 a171:=Tryz.isAgg111
 z171:=Tryz.sizeOf111
 v171:=Tryz.zeroValue111
 t173:=Tryz.underlying115
 a173:=Tryz.isAgg115
 z173:=Tryz.sizeOf115
 v173:=Tryz.zeroValue115
 t212:=Tryz.underlying145
 a212:=Tryz.isAgg145
 z212:=Tryz.sizeOf145
 v212:=Tryz.zeroValue145
 t213:=Tryz.underlying147
 a213:=Tryz.isAgg147
 z213:=Tryz.sizeOf147
 t232:=Tryz.underlying224
 a232:=Tryz.isAgg224
 z232:=Tryz.sizeOf224
 v232:=Tryz.zeroValue224
 t233:=Tryz.underlying225
 a233:=Tryz.isAgg225
 z233:=Tryz.sizeOf225
 v233:=Tryz.zeroValue225
 g17:=by kernel_rfl
 g18:=by kernel_rfl
 g19:=by kernel_rfl
 i0:=by kernel_rfl
 i2:=by kernel_rfl
 i3:=by kernel_rfl
 i4:=by kernel_rfl
 i5:=by kernel_rfl
 i9:=by kernel_rfl
 i20:=by kernel_rfl
 i37:=by kernel_rfl
 i46:=by kernel_rfl
 i51:=by kernel_rfl
 i53:=by kernel_rfl
 i171:=by kernel_rfl
 i173:=by kernel_rfl
 i212:=by kernel_rfl
 i232:=by kernel_rfl
 i233:=by kernel_rfl
 m17:=by kernel_rfl
 m18:=by kernel_rfl
 m19:=by kernel_rfl }
end Go.Proofs
/- Values as texts, pure: what is written; the builder's writers. -/
namespace Go.Proofs.YtknakfpciccoaabGreatDoor
open Go.RowKit
def hexC (n:Nat):UInt8:=if n<10 then UInt8.ofNat (48+n) else UInt8.ofNat (87+n)
def escC (c:UInt8):List UInt8:=if c.toNat=34∨c.toNat=92 then [92,c] else if c.toNat<32 then [92,117,48,48,hexC (c.toNat / 16),hexC (c.toNat % 16)] else [c]
def escTo (s:ByteArray) (k:Nat):List UInt8:=(s.data.toList.take k).flatMap escC
def quoL (s:ByteArray):List UInt8:=34::(escTo s s.size++[34])
theorem escTo_zero (s:ByteArray):escTo s 0=[]:=by simp [escTo]
theorem escTo_succ {s:ByteArray} {k:Nat} {z:UInt8} (h:s.data[k]?=some z):escTo s (k+1)=escTo s k++escC z:=by
 have h':s.data.toList[k]?=some z:=by rw [Array.getElem?_toList];exact h
 unfold escTo
 rw [List.take_add_one,h']
 simp
theorem get_some {s:ByteArray} {k:Nat} {z:UInt8} (h:k<s.size) (e:s[k]'h=z):s.data[k]?=some z:=by
 rw [← e]
 exact Array.getElem?_eq_getElem h
theorem escC_len (c : UInt8) : (escC c).length ≤ 6 := by unfold escC; split; · simp
                                                         · split <;> simp
theorem escTo_len (s:ByteArray):∀ k,(escTo s k).length≤6*k
 | 0=>by simp [escTo]
 | k+1=>by
  have ih:=escTo_len s k
  cases h:s.data[k]? with
  | none =>
   have h':s.data.toList.length≤k:=by simpa using h
   have:escTo s (k+1)=escTo s k:=by unfold escTo;rw [List.take_of_length_le (by omega),List.take_of_length_le h']
   rw [this]
   omega
  | some z =>
   rw [escTo_succ h,List.length_append]
   have:=escC_len z
   omega
theorem quoL_len (s:ByteArray):(quoL s).length≤6*s.size+2:=by
 have:=escTo_len s s.size
 simp [quoL]
 omega
def leafW (t:T):List UInt8 :=
 if kindOf t=1 then [110,117,108,108] else if kindOf t=2 then (if nOf t=1 then [116,114,117,101] else [102,97,108,115,101]) else if kindOf t=3 then Lib.itoa (nOf t) else if kindOf t=4 then quoL (sOf t) else []
def joinL (g:T→List UInt8) (t:T):Nat→List UInt8
 | 0=>[]
 | k+1=>joinL g t k++((if k=0 then [] else [44])++g (elt t k))
def joinO (g:T→List UInt8) (t:T):Nat→List UInt8
 | 0=>[]
 | k+1=>joinO g t k++((if k=0 then [] else [44])++(quoL (nam t k)++(58::g (elt t k))))
def wrT:Nat→T→List UInt8
 | 0,t=>leafW t
 | m+1,t=>if kindOf t=5 then 91::(joinL (wrT m) t (nL t)++[93]) else if kindOf t=6 then 123::(joinO (wrT m) t (nK t)++[125]) else leafW t
theorem joinL_mono (g : T → List UInt8) (t : T) {k n : Nat} (h : k ≤ n) : (joinL g t k).length ≤ (joinL g t n).length := by
  induction n with
  | zero => have : k = 0 := by omega
            subst this; exact Nat.le_refl _
  | succ n ih =>
    by_cases e : k = n + 1
    · subst e; exact Nat.le_refl _
    · have := ih (by omega)
      simp only [joinL, List.length_append]
      omega
theorem joinO_mono (g : T → List UInt8) (t : T) {k n : Nat} (h : k ≤ n) : (joinO g t k).length ≤ (joinO g t n).length := by
  induction n with
  | zero => have : k = 0 := by omega
            subst this; exact Nat.le_refl _
  | succ n ih =>
    by_cases e : k = n + 1
    · subst e; exact Nat.le_refl _
    · have := ih (by omega)
      simp only [joinO, List.length_append]
      omega
structure WrP (B b:Nat) (acc:List UInt8) (w w':World):Prop where
 isb:Lib.IsBuilderF 108 5 B b (Lib.byteCells acc) w'
 below:Below B w w'
 oth:Lib.OthersKept 5 (some b) w w'
 lo:B≤w.heap.size
theorem WrP.trans {B b:Nat} {acc acc':List UInt8} {w w1 w2:World} (h:WrP B b acc w w1) (k:WrP B b acc' w1 w2):WrP B b acc' w w2 :=
 ⟨k.isb,h.below.trans k.below,h.oth.trans k.oth,h.lo⟩
theorem WrP.lo' {B b:Nat} {acc:List UInt8} {w w1:World} (h:WrP B b acc w w1):B≤w1.heap.size:=Nat.le_trans h.lo h.below.size
theorem WrP.acc {B b:Nat} {acc acc':List UInt8} {w w1:World} (h:WrP B b acc w w1) (e:acc=acc'):WrP B b acc' w w1:=e ▸ h
theorem WrP.keep {B b:Nat} {acc:List UInt8} {w w1 w2:World} (h:WrP B b acc w w1) (k:Below w1.heap.size w1 w2):WrP B b acc w w2 :=
 ⟨h.isb.elim (fun x=>.inl ⟨x.1,by
   obtain ⟨v,hb,hown,hne⟩:=x.2
   exact ⟨v,(k.block b (Array.getElem?_eq_some_iff.1 hb).1).trans hb,rowF_move hown (fun i _ h2=>k.block i h2),hne⟩⟩) (fun x=>.inr ⟨x.1,by
   obtain ⟨v,hb,hown,hne⟩:=x.2
   exact ⟨v,(k.block b (Array.getElem?_eq_some_iff.1 hb).1).trans hb,rowF_move hown (fun i _ h2=>k.block i h2),hne⟩⟩),
  h.below.trans (k.mono (Nat.le_trans h.lo h.below.size)),
  fun i o hi hb ho=>by
   have h1:=h.oth i o hi hb ho
   exact (k.block i (Array.getElem?_eq_some_iff.1 h1).1).trans h1,h.lo⟩
theorem WrP.start {B b:Nat} {acc:List UInt8} {w:World} (h:Lib.IsBuilderF 108 5 B b (Lib.byteCells acc) w) (hB:B≤w.heap.size):WrP B b acc w w :=
 ⟨h,Below.refl _ _,Lib.OthersKept.refl _ _ _,hB⟩
def Wrote (B b:Nat) (acc:List UInt8) (w:World) (e:Ending) (w':World):Prop:=e=.returned (.tuple #[])∧WrP B b acc w w'
theorem wbyte_any (B b:Nat) (acc:List UInt8) (c:UInt8) (w0 w:World) (h:WrP B b acc w0 w) (hl:acc.length≤1000000000) :
  Calls Tryz.prog 130 #[.pointer (some ⟨b,0,none⟩),.int .u8 (c.toNat:Int)] w fun e w'=>e=.returned .nilIface∧WrP B b (acc++[c]) w w':=by
 refine (Any.Builder_WriteByte_k Tryz.laysWriteByte Tryz.extraWriteByte B b (Lib.byteCells acc) (c.toNat:Int) w h.isb (by rw [Lib.byteCells_length];omega) h.lo').mono ?_
 rintro e w' ⟨rfl,h1,b1,o1⟩
 refine ⟨rfl,⟨Or.inr ?_,b1,o1,h.lo'⟩⟩
 rw [Lib.byteCells_append]
 exact h1
theorem wstr_any (B b:Nat) (acc:List UInt8) (s:ByteArray) (w0 w:World) (h:WrP B b acc w0 w) (hl:acc.length+s.size≤1000000000) :
  Calls Tryz.prog 95 #[.pointer (some ⟨b,0,none⟩),.string s] w fun e w'=>e=.returned (.tuple #[.int .i64 s.size,.nilIface])∧WrP B b (acc++s.data.toList) w w':=by
 refine (Any.Builder_WriteString_k Tryz.laysWriteString Tryz.extraWriteString B b (Lib.byteCells acc) s w h.isb (by rw [Lib.byteCells_length];omega) h.lo').mono ?_
 rintro e w' ⟨rfl,h1,b1,o1⟩
 refine ⟨rfl,⟨Or.inr ?_,b1,o1,h.lo'⟩⟩
 rw [Lib.byteCells_append]
 exact h1
theorem escC_q {c:UInt8} (h:c.toNat=34∨c.toNat=92):escC c=[92,c]:=by unfold escC;rw [if_pos h]
theorem escC_u {c:UInt8} (h:¬ (c.toNat=34∨c.toNat=92)) (h':c.toNat<32):escC c=[92,117,48,48,hexC (c.toNat / 16),hexC (c.toNat % 16)]:=by unfold escC;rw [if_neg h,if_pos h']
theorem escC_p {c:UInt8} (h:¬ (c.toNat=34∨c.toNat=92)) (h':¬ c.toNat<32):escC c=[c]:=by unfold escC;rw [if_neg h,if_neg h']
def hexS:ByteArray:=⟨#[48,49,50,51,52,53,54,55,56,57,97,98,99,100,101,102]⟩
theorem hexS_get:∀ n:Fin 16,hexS[n.1]'n.2=hexC n.1:=by decide
theorem hexS_at {n:Nat} (h:n<16):hexS[n]'h=hexC n:=hexS_get ⟨n,h⟩
theorem escTo_mono (s:ByteArray) (k:Nat):(escTo s k).length≤(escTo s s.size).length:=by
 have e:escTo s s.size=escTo s k++(s.data.toList.drop k).flatMap escC:=by
  unfold escTo
  have e2:s.data.toList.take s.size=s.data.toList:=List.take_of_length_le (by show s.data.toList.length≤s.data.size;rw [Array.length_toList];exact Nat.le_refl _)
  rw [e2,← List.flatMap_append,List.take_append_drop]
 rw [e]
 simp
end Go.Proofs.YtknakfpciccoaabGreatDoor
/- The walk of printText. -/
namespace Go.Proofs.YtknakfpciccoaabGreatDoor
open Go.RowKit
set_option maxHeartbeats 4000000 in
set_option maxRecDepth 100000 in
theorem printText_any (B b:Nat) (acc:List UInt8) (s:ByteArray) (w:World) (h:Lib.IsBuilderF 108 5 B b (Lib.byteCells acc) w) (hB:B≤w.heap.size) (hl:acc.length+(quoL s).length≤100000000) (hs:s.size≤140737488355328) :
  Calls Tryz.prog 98 #[.pointer (some ⟨b,0,none⟩),.string s] w (Wrote B b (acc++quoL s) w):=by
 have HQ:Hid (∀ k,k≤s.size→(escTo s k).length+acc.length+1≤100000000):=hid (fun k hk=>by
  have:=escTo_mono s k
  simp [quoL] at hl
  omega)
 have HE:Hid (acc++quoL s=acc++[34]++escTo s s.size++[34]):=by show _=_;simp [quoL]
 have hl0:acc.length≤100000000:=by omega
 have HS:=hid (WrP.start h hB)
 clear h hl
 go_enter Tryz.func98,Tryz.ntmps98
 go_wp2_with fail
 refine (wbyte_any B b acc 34 w w HS.out (by omega)).mono ?_
 rintro e w1 ⟨rfl,hw1⟩
 have H1:=hid hw1
 clear hw1
 go_wp2_with fail
 go_loopg [10] (s.size) (fun g i wr=>∃ k:Nat,g=s.size - k∧k≤s.size∧i=.int .i64 k∧Hid (WrP B b (acc++[34]++escTo s k) w wr))
 case atStart=>exact ⟨0,rfl,Nat.zero_le _,rfl,H1.out.acc (by simp [escTo_zero])⟩
 case round =>
  obtain ⟨k,rfl,hk,rfl,HW⟩:=hrel
  have hq:=HQ.out k hk
  have hlk:(acc++[34]++escTo s k).length≤100000000:=by simp;omega
  by_cases hlt:k<s.size
  ·obtain ⟨z,hz⟩:∃ z:UInt8,s[k]'hlt=z:=⟨_,rfl⟩
   have HZ:=hid (escTo_succ (get_some hlt hz))
   have x1:(k:Int)<(s.size:Int):=by omega
   have lz:z.toNat<256:=z.toNat_lt
   have hne:∀ (a:List UInt8),(acc++[34]++escTo s k++a).length≤100000000+a.length:=fun a=>by rw [List.length_append];omega
   have HN:=hid hne
   clear hne
   by_cases hq2:z.toNat=34∨z.toNat=92
   ·have HC:=hid (escC_q hq2)
    rcases hq2 with hq2 | hq2
    ·have y1:((z.toNat:Int)==34)=true:=by rw [beq_iff_eq];omega
     clear hq2
     go_wp2_with fail
     refine (wbyte_any B b _ 92 w wr HW.out (by omega)).mono ?_
     rintro e w2 ⟨rfl,hw2⟩
     have H2:=hid (HW.out.trans hw2)
     clear hw2
     go_wp2_with fail
     refine (wbyte_any B b _ z w w2 H2.out (by have:=HN.out [92];simp only [List.length_singleton] at this;omega)).mono ?_
     rintro e w3 ⟨rfl,hw3⟩
     have H3:=hid (H2.out.trans hw3)
     clear hw3
     go_wp2_with fail
     go_roundg (s.size - (k+1))
     case rel=>exact ⟨k+1,rfl,by omega,by go_num,H3.out.acc (by rw [HZ.out,HC.out];simp)⟩
     case measure=>omega
    ·have y0:((z.toNat:Int)==34)=false:=by rw [beq_eq_false_iff_ne];omega
     have y1:((z.toNat:Int)==92)=true:=by rw [beq_iff_eq];omega
     clear hq2
     go_wp2_with fail
     refine (wbyte_any B b _ 92 w wr HW.out (by omega)).mono ?_
     rintro e w2 ⟨rfl,hw2⟩
     have H2:=hid (HW.out.trans hw2)
     clear hw2
     go_wp2_with fail
     refine (wbyte_any B b _ z w w2 H2.out (by have:=HN.out [92];simp only [List.length_singleton] at this;omega)).mono ?_
     rintro e w3 ⟨rfl,hw3⟩
     have H3:=hid (H2.out.trans hw3)
     clear hw3
     go_wp2_with fail
     go_roundg (s.size - (k+1))
     case rel=>exact ⟨k+1,rfl,by omega,by go_num,H3.out.acc (by rw [HZ.out,HC.out];simp)⟩
     case measure=>omega
   ·have y34:((z.toNat:Int)==34)=false:=by rw [beq_eq_false_iff_ne];omega
    have y92:((z.toNat:Int)==92)=false:=by rw [beq_eq_false_iff_ne];omega
    by_cases hu:z.toNat<32
    ·have HC:=hid (escC_u hq2 hu)
     have y1:decide ((z.toNat:Int)<32)=true:=decide_eq_true (by omega)
     clear hq2
     go_wp2_with fail
     refine (wstr_any B b _ ⟨#[92,117,48,48]⟩ w wr HW.out (by show _+4≤_;omega)).mono ?_
     rintro e w2 ⟨rfl,hw2⟩
     have H2:=hid (HW.out.trans hw2)
     clear hw2
     have n1:z.toNat / 16<16:=by omega
     have n2:z.toNat % 16<16:=by omega
     go_wp2_with fail
     refine (wbyte_any B b _ (hexS[z.toNat / 16]'n1) w w2 H2.out (by have:=HN.out [92,117,48,48];simp only [List.length_cons,List.length_nil] at this;simp only [List.length_append,List.length_cons,List.length_nil] at this ⊢;omega)).mono ?_
     rintro e w3 ⟨rfl,hw3⟩
     have H3:=hid (H2.out.trans hw3)
     clear hw3
     go_wp2_with fail
     refine (wbyte_any B b _ (hexS[z.toNat % 16]'n2) w w3 H3.out (by have:=HN.out [92,117,48,48];simp only [List.length_append,List.length_cons,List.length_nil] at this ⊢;omega)).mono ?_
     rintro e w4 ⟨rfl,hw4⟩
     have H4:=hid (H3.out.trans hw4)
     clear hw4
     go_wp2_with fail
     go_roundg (s.size - (k+1))
     case rel=>exact ⟨k+1,rfl,by omega,by go_num,H4.out.acc (by rw [HZ.out,HC.out,hexS_at,hexS_at];simp)⟩
     case measure=>omega
    ·have HC:=hid (escC_p hq2 hu)
     have y1:decide ((z.toNat:Int)<32)=false:=decide_eq_false (by omega)
     clear hq2
     go_wp2_with fail
     refine (wbyte_any B b _ z w wr HW.out (by omega)).mono ?_
     rintro e w2 ⟨rfl,hw2⟩
     have H2:=hid (HW.out.trans hw2)
     clear hw2
     go_wp2_with fail
     go_roundg (s.size - (k+1))
     case rel=>exact ⟨k+1,rfl,by omega,by go_num,H2.out.acc (by rw [HZ.out,HC.out];simp)⟩
     case measure=>omega
  ·obtain rfl:k=s.size:=by omega
   go_wp2_with fail
   refine (wbyte_any B b _ 34 w wr HW.out (by omega)).mono ?_
   rintro e w2 ⟨rfl,hw2⟩
   have H2:=hid hw2
   clear hw2
   go_wp2_with fail
   refine bodyPost_end (v:=.tuple #[]) (by simp [results,Tryz.results98,go_sem]) rfl ?_
   exact ⟨rfl,(HW.out.trans H2.out).acc HE.out.symm⟩
end Go.Proofs.YtknakfpciccoaabGreatDoor
/- The walks of printValue's leaves. -/
namespace Go.Proofs.YtknakfpciccoaabGreatDoor
open Go.RowKit
def trueL:List UInt8:=[116,114,117,101]
def falseL:List UInt8:=[102,97,108,115,101]
def FmtSaid (Tb:World→Prop):Prop:=∀ (n:Int) (w:World),-9223372036854775808≤n→n≤9223372036854775807→Tb w→Calls Tryz.prog 97 #[.int .i64 n,.int .i64 10] w fun e w'=>e=.returned (.string (baL (Lib.itoa n)))∧Below w.heap.size w w'
set_option maxHeartbeats 4000000 in
set_option maxRecDepth 100000 in
theorem fbool_in (b:Bool) (w:World):Calls Tryz.prog 129 #[.bool b] w fun e w'=>e=.returned (.string (baL (if b then trueL else falseL)))∧w'=w:=by
 go_enter Tryz.func129,Tryz.ntmps129
 cases b
 ·go_wp2_with fail
  go_ret
  exact ⟨rfl,rfl⟩
 ·go_wp2_with fail
  go_ret
  exact ⟨rfl,rfl⟩
set_option maxHeartbeats 4000000 in
set_option maxRecDepth 100000 in
theorem fbool_any (b:Bool) (w:World):Calls Tryz.prog 96 #[.bool b] w fun e w'=>e=.returned (.string (baL (if b then trueL else falseL)))∧w'=w:=by
 have HF:=hid (fbool_in b w)
 generalize baL (if b=true then trueL else falseL)=s at HF ⊢
 go_enter Tryz.func96,Tryz.ntmps96
 go_wp2_with fail
 refine HF.out.mono ?_
 rintro e w1 ⟨rfl,rfl⟩
 go_wp2_with fail
 go_ret
 exact ⟨rfl,rfl⟩
def PrSaid (Tb:World→Prop) (w0:World) (m:Nat):Prop:=∀ (f:Nat) (v:Value) (t:T) (acc:List UInt8) (b:Nat) (w:World),
 At w0 f v t→Good m t→Below w0.heap.size w0 w→Lib.IsBuilderF 108 5 w0.heap.size b (Lib.byteCells acc) w→Tb w→acc.length+(wrT m t).length≤100000000 →
  Calls Tryz.prog 65 #[.pointer (some ⟨b,0,none⟩),v] w (Wrote w0.heap.size b (acc++wrT m t) w)
theorem wrT_leaf {m:Nat} {t:T} (h5:kindOf t≠5) (h6:kindOf t≠6):wrT m t=leafW t:=by
 cases m with
 | zero=>rfl
 | succ m=>unfold wrT;rw [if_neg h5,if_neg h6]
set_option maxHeartbeats 4000000 in
set_option maxRecDepth 100000 in
theorem print_leaf {Tb:World→Prop} (hF:FmtSaid Tb) (w0:World) (hS:Stays Tb w0.heap.size) (t:T) (hg:leafGood t) (ht:Fits t) (acc:List UInt8) (b:Nat) (w:World) (La Ka:Option Addr) (Lc Kc:Nat)
  (hb:Below w0.heap.size w0 w) (h:Lib.IsBuilderF 108 5 w0.heap.size b (Lib.byteCells acc) w) (hT:Tb w) (hl:acc.length+(leafW t).length≤100000000) :
  Calls Tryz.prog 65 #[.pointer (some ⟨b,0,none⟩),.agg #[.int .i64 (kindOf t),.int .i64 (nOf t),.string (sOf t),.slice La (nL t) Lc,.slice Ka (nK t) Kc]] w (Wrote w0.heap.size b (acc++leafW t) w):=by
 have HS:=hid (WrP.start h hb.size)
 have HB1:Hid (Below w.heap.size w (w.alloc (.cells #[.int .i64 (kindOf t),.int .i64 (nOf t),.string (sOf t),.slice La (nL t) Lc,.slice Ka (nK t) Kc] 36))):=(Below.refl _ _).alloc (Nat.le_refl _) _
 have HS1:=hid (HS.out.keep HB1.out)
 have HT1:=hid (hS _ _ hT (HB1.out.mono hb.size))
 have HF:=hid hF
 have HFt:=hid ht
 have HST:=hid hS
 have Hb:=hid hb
 clear h hF ht hT hS hb
 obtain ⟨g1,g2,hg⟩:=hg
 clear g1 g2
 rcases hg with ⟨hk,g3⟩ | ⟨hk,g3⟩ | ⟨hk,g3⟩ | ⟨hk,g3,hsz,g4⟩
 all_goals clear g3
 ·have e1:(kindOf t==1)=true:=by rw [hk];rfl
  have HW:Hid (leafW t=[110,117,108,108]):=by show _=_;unfold leafW;rw [if_pos hk]
  rw [HW.out] at hl ⊢
  clear hk
  go_enter Tryz.func65,Tryz.ntmps65
  go_wp2_with fail
  refine (wstr_any w0.heap.size b acc ⟨#[110,117,108,108]⟩ w _ HS1.out (by show _+4≤_;omega)).mono ?_
  rintro e w2 ⟨rfl,hw2⟩
  have H2:=hid (HS1.out.trans hw2)
  clear hw2
  go_wp2_with fail
  refine bodyPost_end (v:=.tuple #[]) (by simp [results,Tryz.results65,go_sem]) rfl ?_
  exact ⟨rfl,H2.out⟩
 ·have e1:(kindOf t==1)=false:=by rw [hk];rfl
  have e2:(kindOf t==2)=true:=by rw [hk];rfl
  by_cases hn:nOf t=1
  ·have HW:Hid (leafW t=trueL):=by show _=_;unfold leafW;rw [if_neg (by omega),if_pos hk,if_pos (by omega)];rfl
   have y:(nOf t==1)=true:=by rw [beq_iff_eq];exact hn
   have HP:=hid (fbool_any true (w.alloc (.cells #[.int .i64 (kindOf t),.int .i64 (nOf t),.string (sOf t),.slice La (nL t) Lc,.slice Ka (nK t) Kc] 36)))
   rw [HW.out] at hl ⊢
   have hl0:acc.length≤100000000:=by omega
   clear hk hn hl
   go_enter Tryz.func65,Tryz.ntmps65
   go_wp2_with fail
   refine HP.out.mono ?_
   rintro e w2 ⟨rfl,rfl⟩
   go_wp2_with fail
   refine (wstr_any w0.heap.size b acc (baL trueL) w _ HS1.out (by show _+4≤_;omega)).mono ?_
   rintro e w2 ⟨rfl,hw2⟩
   have H2:=hid (HS1.out.trans hw2)
   clear hw2
   go_wp2_with fail
   refine bodyPost_end (v:=.tuple #[]) (by simp [results,Tryz.results65,go_sem]) rfl ?_
   exact ⟨rfl,H2.out⟩
  ·have HW:Hid (leafW t=falseL):=by show _=_;unfold leafW;rw [if_neg (by omega),if_pos hk,if_neg (by omega)];rfl
   have y:(nOf t==1)=false:=by rw [beq_eq_false_iff_ne];exact hn
   have HP:=hid (fbool_any false (w.alloc (.cells #[.int .i64 (kindOf t),.int .i64 (nOf t),.string (sOf t),.slice La (nL t) Lc,.slice Ka (nK t) Kc] 36)))
   rw [HW.out] at hl ⊢
   have hl0:acc.length≤100000000:=by omega
   clear hk hn hl
   go_enter Tryz.func65,Tryz.ntmps65
   go_wp2_with fail
   refine HP.out.mono ?_
   rintro e w2 ⟨rfl,rfl⟩
   go_wp2_with fail
   refine (wstr_any w0.heap.size b acc (baL falseL) w _ HS1.out (by show _+5≤_;omega)).mono ?_
   rintro e w2 ⟨rfl,hw2⟩
   have H2:=hid (HS1.out.trans hw2)
   clear hw2
   go_wp2_with fail
   refine bodyPost_end (v:=.tuple #[]) (by simp [results,Tryz.results65,go_sem]) rfl ?_
   exact ⟨rfl,H2.out⟩
 ·have e1:(kindOf t==1)=false:=by rw [hk];rfl
  have e2:(kindOf t==2)=false:=by rw [hk];rfl
  have e3:(kindOf t==3)=true:=by rw [hk];rfl
  have HW:Hid (leafW t=Lib.itoa (nOf t)):=by show _=_;unfold leafW;rw [hk];rfl
  rw [HW.out] at hl ⊢
  have hl0:acc.length≤100000000:=by omega
  have HSZ:=hid (baL_size (Lib.itoa (nOf t)))
  have HLI:=hid (baL_list (Lib.itoa (nOf t)))
  clear hk
  go_enter Tryz.func65,Tryz.ntmps65
  go_wp2_with fail
  refine (HF.out _ _ HFt.out.n0 HFt.out.n1 HT1.out).mono ?_
  rintro e w2 ⟨rfl,hb2⟩
  have HS2:=hid (HS1.out.keep hb2)
  clear hb2
  generalize baL (Lib.itoa (nOf t))=s at HSZ HLI ⊢
  go_wp2_with fail
  refine (wstr_any w0.heap.size b acc s w _ HS2.out (by have:=HSZ.out;omega)).mono ?_
  rintro e w3 ⟨rfl,hw3⟩
  have H3:=hid (HS2.out.trans hw3)
  clear hw3
  go_wp2_with fail
  refine bodyPost_end (v:=.tuple #[]) (by simp [results,Tryz.results65,go_sem]) rfl ?_
  exact ⟨rfl,H3.out.acc (by rw [HLI.out])⟩
 ·have e1:(kindOf t==1)=false:=by rw [hk];rfl
  have e2:(kindOf t==2)=false:=by rw [hk];rfl
  have e3:(kindOf t==3)=false:=by rw [hk];rfl
  have e4:(kindOf t==4)=true:=by rw [hk];rfl
  have HW:Hid (leafW t=quoL (sOf t)):=by show _=_;unfold leafW;rw [hk];rfl
  rw [HW.out] at hl ⊢
  have HP:=hid (printText_any w0.heap.size b acc (sOf t) _ HS1.out.isb HS1.out.lo' hl (by omega))
  clear hk hl g4 hsz
  go_enter Tryz.func65,Tryz.ntmps65
  go_wp2_with fail
  refine HP.out.mono ?_
  rintro e w2 ⟨rfl,hw2⟩
  have H2:=hid (HS1.out.trans hw2)
  clear hw2 HP
  go_wp2_with fail
  refine bodyPost_end (v:=.tuple #[]) (by simp [results,Tryz.results65,go_sem]) rfl ?_
  exact ⟨rfl,H2.out⟩
end Go.Proofs.YtknakfpciccoaabGreatDoor
/- The walks of printList, printObject, printValue. -/
namespace Go.Proofs.YtknakfpciccoaabGreatDoor
open Go.RowKit
theorem WrP.blt {B b:Nat} {acc:List UInt8} {w w':World} (h:WrP B b acc w w'):b<w'.heap.size:=h.isb.elim (fun x=>x.lt) (fun x=>x.lt)
theorem oth_box {w wr:World} {b:Nat} {c0 c1 c2 c3 c4:Value} (ho:Lib.OthersKept 5 (some b) (w.alloc (.cells #[c0,c1,c2,c3,c4] 36)) wr) (hb:b<w.heap.size) :
  wr.cell? ⟨w.heap.size,0,none⟩=some c0∧wr.cell? ⟨w.heap.size,1,none⟩=some c1∧wr.cell? ⟨w.heap.size,2,none⟩=some c2∧wr.cell? ⟨w.heap.size,3,none⟩=some c3∧wr.cell? ⟨w.heap.size,4,none⟩=some c4:=by
 have e0:(w.alloc (.cells #[c0,c1,c2,c3,c4] 36)).heap[w.heap.size]?=some (.cells #[c0,c1,c2,c3,c4] 36):=by show (w.heap.push _)[w.heap.size]?=_;simp
 have e:=ho w.heap.size _ e0 (by simp;omega) (fun c fz h=>by injection h with _ h2;exact absurd h2 (by decide))
 refine ⟨?_,?_,?_,?_,?_⟩<;>simp [World.cell?,e]
set_option maxHeartbeats 4000000 in
set_option maxRecDepth 100000 in
theorem printList_any {Tb:World→Prop} (w0:World) (hS:Stays Tb w0.heap.size) (m:Nat) (ih:PrSaid Tb w0 m) (f:Nat) (La:Option Addr) (Lc:Nat) (t:T) (acc:List UInt8) (b:Nat) (w:World)
  (hl:ElemsAt w0 f La t) (hn:nL t≤1759218604442) (hg:∀ i,i<nL t→Good m (elt t i)) (hb:Below w0.heap.size w0 w) (h:Lib.IsBuilderF 108 5 w0.heap.size b (Lib.byteCells acc) w) (hT:Tb w)
  (hlen:acc.length+(joinL (wrT m) t (nL t)).length+2≤100000000) :
  Calls Tryz.prog 99 #[.pointer (some ⟨b,0,none⟩),.slice La (nL t) Lc] w (Wrote w0.heap.size b (acc++(91::(joinL (wrT m) t (nL t)++[93]))) w):=by
 have HS:=hid (WrP.start h hb.size)
 have HST:=hid hS
 have Hih:=hid ih
 have Hl:=hid hl
 have Hg:=hid hg
 have Hb:=hid hb
 have HT:=hid hT
 have HM:Hid (∀ k,k≤nL t→(joinL (wrT m) t k).length+acc.length+2≤100000000):=hid (fun k hk=>by have:=joinL_mono (wrT m) t hk;omega)
 have HE:Hid (acc++(91::(joinL (wrT m) t (nL t)++[93]))=acc++[91]++joinL (wrT m) t (nL t)++[93]):=by show _=_;simp
 have hl0:acc.length≤100000000:=by omega
 clear h hS ih hl hg hb hT hlen
 go_enter Tryz.func99,Tryz.ntmps99
 go_wp2_with fail
 refine (wbyte_any w0.heap.size b acc 91 w w HS.out (by omega)).mono ?_
 rintro e w1 ⟨rfl,hw1⟩
 have H1:=hid hw1
 clear hw1
 go_wp2_with fail
 go_loopg [10] (nL t) (fun g i wr=>∃ k:Nat,g=nL t - k∧k≤nL t∧i=.int .i64 k∧Hid (WrP w0.heap.size b (acc++[91]++joinL (wrT m) t k) w wr))
 case atStart=>exact ⟨0,rfl,Nat.zero_le _,rfl,H1.out.acc (by simp [joinL])⟩
 case round =>
  obtain ⟨k,rfl,hk,rfl,HW⟩:=hrel
  have Hbr:=hid (Hb.out.trans HW.out.below)
  have HTr:=hid (HST.out _ _ HT.out HW.out.below)
  by_cases hlt:k<nL t
  ·obtain ⟨bb,o,A,B,C,D,rfl,hbl,p0,p1,p2,p3,p4,Ha⟩:=Hl.out.shape Hbr.out k hlt
   have HM1:=hid (HM.out (k+1) hlt)
   have hm0:=HM.out k hk
   have HG:=hid (Hg.out k hlt)
   have hblt:=HW.out.blt
   have hB1:Below wr.heap.size wr (wr.alloc (.cells #[.int .i64 (kindOf (elt t k)),.int .i64 (nOf (elt t k)),.string (sOf (elt t k)),.slice A (nL (elt t k)) B,.slice C (nK (elt t k)) D] 36)):=(Below.refl _ _).alloc (Nat.le_refl _) _
   have HB1:=hid hB1
   have HW1:=hid (HW.out.keep hB1)
   have HT1:=hid (HST.out _ _ HTr.out (hB1.mono HW.out.lo'))
   have Hb1:=hid (Hb.out.trans HW1.out.below)
   clear hB1
   by_cases hk0:k=0
   ·have HJ:Hid (joinL (wrT m) t (k+1)=joinL (wrT m) t k++wrT m (elt t k)):=by show joinL (wrT m) t k++_=_;rw [if_pos hk0];simp
    subst hk0
    simp only [Nat.zero_mul,Nat.add_zero] at p0 p1 p2 p3 p4
    go_wp2_with fail
    refine (Hih.out f _ (elt t 0) (acc++[91]++joinL (wrT m) t 0) b _ Ha.out HG.out Hb1.out HW1.out.isb HT1.out (by have:=HM1.out;rw [HJ.out] at this;simp only [List.length_append,List.length_cons,List.length_nil] at this ⊢;omega)).mono ?_
    rintro e w2 ⟨rfl,hw2⟩
    have H2:=hid (HW1.out.trans hw2)
    clear hw2
    go_wp2_with fail
    go_roundg (nL t - (0+1))
    case rel=>exact ⟨0+1,rfl,by omega,by go_num,H2.out.acc (by rw [HJ.out];simp)⟩
    case measure=>omega
   ·have HJ:Hid (joinL (wrT m) t (k+1)=joinL (wrT m) t k++([44]++wrT m (elt t k))):=by show joinL (wrT m) t k++_=_;rw [if_neg hk0]
    have y0:0<k:=by omega
    have y1:(0:Int)<(k:Int):=by omega
    clear hk0
    go_wp2_with fail
    refine (wbyte_any w0.heap.size b _ 44 w _ HW1.out (by simp only [List.length_append,List.length_cons,List.length_nil];omega)).mono ?_
    rintro e w2 ⟨rfl,hw2⟩
    obtain ⟨r0,r1,r2,r3,r4⟩:=oth_box hw2.oth hblt
    have HW2:=hid (HW1.out.trans hw2)
    have HT2:=hid (HST.out _ _ HT1.out hw2.below)
    have Hb2:=hid (Hb.out.trans HW2.out.below)
    clear hw2
    go_wp2_with fail
    refine (Hih.out f _ (elt t k) (acc++[91]++joinL (wrT m) t k++[44]) b _ Ha.out HG.out Hb2.out HW2.out.isb HT2.out (by have:=HM1.out;rw [HJ.out] at this;simp only [List.length_append,List.length_cons,List.length_nil] at this ⊢;omega)).mono ?_
    rintro e w3 ⟨rfl,hw3⟩
    have H3:=hid (HW2.out.trans hw3)
    clear hw3
    go_wp2_with fail
    go_roundg (nL t - (k+1))
    case rel=>exact ⟨k+1,rfl,by omega,by go_num,H3.out.acc (by rw [HJ.out];simp)⟩
    case measure=>omega
  ·obtain rfl:k=nL t:=by omega
   have hm0:=HM.out (nL t) hk
   go_wp2_with fail
   refine (wbyte_any w0.heap.size b _ 93 w wr HW.out (by simp only [List.length_append,List.length_cons,List.length_nil];omega)).mono ?_
   rintro e w2 ⟨rfl,hw2⟩
   have H2:=hid (HW.out.trans hw2)
   clear hw2
   go_wp2_with fail
   refine bodyPost_end (v:=.tuple #[]) (by simp [results,Tryz.results99,go_sem]) rfl ?_
   exact ⟨rfl,H2.out.acc HE.out.symm⟩
end Go.Proofs.YtknakfpciccoaabGreatDoor
