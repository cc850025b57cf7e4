import Derived.Test.YtknakfpciccoaabGreatDoorZL14
import Derived.Test.YtknakfpciccoaabGreatDoorZL6
import Derived.Shelf.LaysM
import Derived.Shelf.Strings.BuilderK
import Derived.Shelf.Strconv.Itoa4
import Derived.Test.YtknakfpciccoaabGreatDoorProg
import Derived.Test.YtknakfpciccoaabGreatDoorZL3
import Derived.Test.YtknakfpciccoaabGreatDoorZL7
import Derived.Test.YtknakfpciccoaabGreatDoorZL2
/- The walk of parseFilter. -/
set_option maxHeartbeats 4000000
set_option maxRecDepth 100000
namespace Go.Proofs.YtknakfpciccoaabGreatDoor
open Go.RowKit
theorem Rv {Tb:World->Prop} (hS:dw Tb) (hL:aS Tb) (w0:lN) (f m:Nat) (ih:tH Tb w0 f) (x:ByteArray) (j:T) (v:Value) (w:World) (hx:x.size<=4000) (hm:f<=m+1) (ha:xS w0 f v j) (hf:f<=16) (kj:bM j) (hb0:Below w0.w.heap.size w0.w w) (hT:Tb w) :
  Calls Tryz.prog 117 #[.string x,v] w (Eh w0 m x j w):=by
 by_cases rz:x=uJ
 ·exact Gq hL w0 f m ih x j v w hm ha hf kj hb0 hT rz
 by_cases LP:x=xQ
 ·exact JK hL w0 f m ih x j v w hm ha hf kj hb0 hT LP
 by_cases wN:x=yS
 ·exact Gs hL w0 f m ih x j v w hm ha hf kj hb0 hT wN
 exact Gt hS hL w0 f m x j v w hx ha hf kj hb0 hT ⟨rz,LP,wN⟩
theorem PE {Tb:World->Prop} (hS:dw Tb) (hL:aS Tb) (w0:lN) (f:Nat) (ih:tH Tb w0 f):MI Tb w0 (f+1):=by
 intro m v t w hm ha hf kj hb0 hT;obtain ⟨m,rfl⟩:∃ x,m=x+1:=⟨m - 1,by omega⟩;obtain ⟨iC,hiC,zC0,zC1,zC2⟩:=info_parts aff;obtain ⟨g1,La,Ka,Lc,Kc,hg1,rfl,hfj,hel,hnm⟩:=ha.open;obtain rfl:g1=f:=by omega
 have HB1:=aj (aQ w (vC t La Lc Ka Kc));have HT:Hid (∀ w':World,Below w.heap.size w w'->Tb w'):=fun w' hb=>hL w hT w w' hT hb;have HPc:Hid (∀ (x:ByteArray) (j:T) (v:Value) (w:World),x.size<=4000->xS w0 g1 v j->bM j->Below w0.w.heap.size w0.w w->Tb w->Calls Tryz.prog 117 #[.string x,v] w (Eh w0 m x j w)):=fun x j v w hx ha kj hb hT=>Rv hS hL w0 g1 m ih x j v w hx (by omega) ha (by omega) kj hb hT;have zu:=aj kj;have Gd:=aj hel.out;have Y2:=aj hnm.out;have hnk:=kj.small.1;have hnl:=kj.small.2;clear ha kj ih hel hnm hg1 hfj hT hL hS;by_cases k6:ah t=6
 ·have e6:(ah t==6)=true:=by simpa using k6
  have HKL:=aj (zu.out.names k6);have Gc:Hid (bH (m+1) t=rY (fun i=>xU (bH m) (bR t i) (elt t i)) (nK t)):=by show _=_;rw [bH,e6];rfl
  clear k6;go_in;go_wp2_with fail;refine (fQ true _).mono ?_;rintro e w2 ⟨rfl,he⟩;simp only [if_true] at he;subst he;go_wp2_with fail;go_loopg [3,13] (nK t) (fun g o i wr=>∃ (k:Nat) (xs:List Value),g=nK t - k/\k<=nK t/\i=.int .i64 k/\Hid (Below (w.heap.size+1) (w.alloc (vC t La Lc Ka Kc)) wr)/\Hid (ru (aaX w0 m) 1 128 (w.heap.size+1) o ((mg t).take k) xs wr)/\Hid (rY (fun i=>xU (bH m) (bR t i) (elt t i)) k=true))
  case atStart=>exact ⟨0,[],rfl,Nat.zero_le _,rfl,Below.refl _ _,ru.nil _ _ _ _ _,rfl⟩
  case round =>
   obtain ⟨k,xs,rfl,hk,rfl,HB,HL,HN⟩:=hrel;obtain ⟨q0,q1,q2,q3,q4,hz,hbw⟩:=dB HB.out;have nR:=aj (hb0.trans (hbw.mono hb0.size));have gQ:=aj hbw;clear hbw;by_cases hlt:k<nK t
   ·have rZ:k<nL t:=by have:=HKL.out;omega
    obtain ⟨kb,ko,rfl,hkb,hks,hkc⟩:=Y2.out.keep nR.out k hlt;obtain ⟨bb,oo,A,B,C,D,rfl,hbl,p0,p1,p2,p3,p4,Ha⟩:=Gd.out.shape nR.out k rZ;have HC:=aj (HPc.out (bR t k) (elt t k) _ wr (zu.out.bR hlt) Ha.out (zu.out.elt rZ) nR.out (HT.out _ gQ.out));have HA:Hid (rY (fun i=>xU (bH m) (bR t i) (elt t i)) (k+1)=xU (bH m) (bR t k) (elt t k)):=by show _=_;rw [rY,HN.out];simp
    have HA2:Hid (xU (bH m) (bR t k) (elt t k)=false->bH (m+1) t=false):=fun h=>by rw [Gc.out];exact zZ (p:=fun i=>xU (bH m) (bR t i) (elt t i)) h _ hlt
    have CY:=aj (JJ hlt);have hxl:((mg t).take k).length=k:=by rw [List.length_take,mh];omega
    go_wp2_with fail;refine HC.out.mono ?_;rintro e w3 ⟨b3,⟨hok,fv,rfl,ht⟩ | ⟨hok,rfl⟩⟩
    ·obtain ⟨t6,v6,rfl⟩:=ht.shape;have tu:=aj (HA.out.trans hok);have UW:=aj ht;have Hb3:=aj b3;have bT:=aj (aQ w3 (.cells #[.iface t6 v6] 128));have rH:=aj ((HL.out.keep (oG w0 m) Hb3.out).keep (oG w0 m) bT.out);have qy:Hid (Src Tryz.prog 1 70 (.slice (some ⟨w3.heap.size,0,none⟩) 1 1) 1 [.iface t6 v6] (w3.alloc (.cells #[.iface t6 v6] 128))):=Src.ofSlice _ Tryz.underlying70 ⟨w3.heap.size,0,none⟩ 1 1 [.iface t6 v6] (by simp) (World.news_of_block (heap_alloc_new w3 _)) (by simp [Value.oneCell']);have hlo:w.heap.size+1<=(w3.alloc (.cells #[.iface t6 v6] 128)).heap.size:=by have:=Hb3.out.size;simp;omega
     clear b3 hok ht HC HA HA2;go_wp2_with (at_builtin;refine aD _ rfl (.tmp 18) (.tmp 26) 70 70 rfl (w.heap.size+1) 128 iC _ 1 16 Tryz.underlying70 hiC zC0 zC1 zC2 rfl u3 ((mg t).take k).length xs rfl rH.out.row (.slice (some ⟨w3.heap.size,0,none⟩) 1 1) 1 [.iface t6 v6] rfl qy.out (by unfold maxLen;omega) (by omega) hlo ?_;intro v' w6 pV lZ dW);have zn:=aj (HL.out.grow (x:=(bR t k,elt t k)) (cs:=[.iface t6 v6]) (oG w0 m) (Hb3.out.trans (bT.out.mono Hb3.out.size)) rfl (oG w0 m _ _ _ _ _ _ ⟨_,rfl,UW.out⟩ (fun b hb=>⟨bT.out.block b hb.2,hb⟩)) (fun b hb=>⟨hb.1,Nat.lt_of_lt_of_le hb.2 bT.out.size⟩) (by omega) pV lZ dW);have iq:=aj (bY ((HB.out.trans (Hb3.out.mono (by omega))).trans (bT.out.mono (by have:=Hb3.out.size;omega))) rH.out.row (Nat.le_refl _) (by omega) lZ);rw [<- CY.out] at zn;clear pV lZ dW;go_wp2_with fail;go_roundg (nK t - (k+1))
     case rel=>exact ⟨k+1,_,rfl,by omega,by go_num,iq,zn,tu⟩
     case measure=>omega
    ·have HA4:=aj (HA2.out hok);exact ⟨rfl,gQ.out.trans (b3.mono gQ.out.size),.inr ⟨HA4.out,rfl⟩⟩
   ·obtain rfl:k=nK t:=by omega
    have YU:Hid ((mg t).take (nK t)=mg t):=by show _=_;rw [List.take_of_length_le (by rw [mh];omega)]
    rw [YU.out] at HL
    have jW:Hid (iG w0 wr (aT w wr) (m+1) u3 t):=by
     obtain ⟨A,c,hv,hr⟩:=PD (w:=w) HL.out (by omega);rw [mh] at hv;refine ⟨A,c,hv,by omega,fun i hi=>?_⟩;obtain ⟨b,u,h1,h2,h3,h4⟩:=hr i (by rw [mh];exact hi);obtain ⟨u',h5,h6⟩:=HL.out.el i (by rw [mh];exact hi);have h7:=h3 u' h5;subst h7;rw [Y4] at h6;have mv:∀ b,Y0 (w.heap.size+1) u3 wr b->wr.heap[b]?=wr.heap[b]?/\aT w wr b:=fun b hb=>⟨rfl,by have:=hb.1;omega,hb.2.1⟩;exact ⟨b,0,u',h1,h2,h4,h6.move mv (iG.move mv m)⟩
    have ab4:=aj (Gc.out.trans HN.out);go_wp2_with fail;go_ret;exact ⟨gQ.out,.inl ⟨ab4.out,_,rfl,jW.out⟩⟩
 ·have e6:(ah t==6)=false:=by simpa using k6
  have Gc:Hid (bH (m+1) t=false):=by show _=_;rw [bH,e6];rfl
  clear k6;go_in;go_wp2_with fail;refine (fQ false _).mono ?_;rintro e w2 ⟨rfl,he⟩;simp only [Bool.false_eq_true,if_false] at he;subst he;exact ⟨rfl,HB1.out,.inr ⟨Gc.out,rfl⟩⟩
theorem U2 {Tb:World->Prop} (hS:dw Tb) (hL:aS Tb) (w0:lN):∀ f,MI Tb w0 f
 | 0=>fun _ _ _ _ _ h=>h.elim
 | 1=>PE hS hL w0 0 (fun _ _ _ _ _ h=>h.elim)
 | f+2=>PE hS hL w0 (f+1) (U1 hL w0 f (U2 hS hL w0 f))
theorem Bh (be:Nat) (n:Int) (w:World) (x:Value) (h5:w.cell? ⟨be,0,none⟩=some x) (f5:w.frozen? ⟨be,0,none⟩=false) :
  CallsD Tryz.prog 115 #[.pointer (some ⟨be,0,none⟩)] (.panicking [{ v:=.iface 88 (.int .i64 n),recovered:=false }]) w fun e u' w' =>
   e=.returned (.tuple #[])/\u'=.panicking [{ v:=.iface 88 (.int .i64 n),recovered:=true }]/\w'=w.setCell ⟨be,0,none⟩ (.int .i64 n):=by
 refine callsD_of_wpS Tryz.func115 rfl fun c₀ cs hu=>?_;apply wpS_seq;apply wpS_region;simp [wpOpsS,go_sem,recoverD,hu,Tryz.ntmps115,Exit.thenS];refine wpS_of_wp ?_;have hta:=rQ n;have e:(#[Value.pointer (some { block:=be,off:=0 })]++(Array.replicate 10 undef).setIfInBounds 3 (Value.iface 88 (Value.int IntKind.i64 n)))=#[.pointer (some ⟨be,0,none⟩),undef,undef,undef,.iface 88 (.int .i64 n),undef,undef,undef,undef,undef,undef]:=rfl;rw [e];go_wp2_with fail;simp [bodyPostS,results,Tryz.results115]
theorem JM (be:Nat) (w:World) :
  CallsD Tryz.prog 115 #[.pointer (some ⟨be,0,none⟩)] .returning w fun e u' w'=>e=.returned (.tuple #[])/\u'=.returning/\w'=w:=by
 refine callsD_of_wpS Tryz.func115 rfl fun c₀ cs hu=>?_;apply wpS_seq;apply wpS_region;simp [wpOpsS,go_sem,recoverD,hu,Tryz.ntmps115,Exit.thenS];refine wpS_of_wp ?_;go_wp2_with fail;cases c₀
 simp_all [bodyPostS,results,Tryz.results115]
def dX (w:World):World:=w.alloc (.cells #[.int .i64 0] 29)
theorem gJ (w:World):(dX w).cell? ⟨w.heap.size,0,none⟩=some (.int .i64 0)/\(dX w).frozen? ⟨w.heap.size,0,none⟩=false/\(dX w).heap.size=w.heap.size+1/\Below w.heap.size w (dX w) :=
 ⟨by simp [dX,go_sem],by simp [dX,go_sem],by simp [dX],aQ _ _⟩
def aaY (Q:Prop) (R:Value->World->Prop) (w:World) (e:Ending) (w':World):Prop :=
 Below w.heap.size w w'/\((∃ v,e=.returned v/\R v w')\/(Q/\e=kK 8))
theorem U3 (g:Nat) (hg:∀ (a:Array Value) (w:World),(callFunc g a).run Tryz.prog w=.ok (.enter g a) w) (Q:Prop) (R:Value->World->Prop) (p:Value) (w:World)
  (h:Calls Tryz.prog g #[p] (dX w) (aaY Q R (dX w))) :
  Calls Tryz.prog 83 #[.func (Fn.func g) #[] #[p]] w fun e w'=>Below w.heap.size w w'/\((∃ x w2,e=.returned (.tuple #[x,.int .i64 0])/\R x w2/\oh (w.heap.size+1) w2 w'/\Below w.heap.size w w2)\/(Q/\e=.returned (.tuple #[.slice none 0 0,.int .i64 8]))):=by
 have QM:∀ (fn:Fn) (first cap:Array Value) (w:World),(Instr.makeFunc fn first cap).run Tryz.prog w=.ok (.func fn first cap) w:=fun _ _ _ _=>rfl;have H:=aj h;have HF:=aj (gJ w);clear h;go_enter_defers Tryz.func83,Tryz.ntmps83;go_wp2_with fail;refine H.out.mono ?_;rintro e w1 ⟨hb,hr⟩;have l0:w.heap.size<(dX w).heap.size:=by have:=HF.out.2.2.1;omega
 have a5:=(hb.cell (p:=⟨w.heap.size,0,none⟩) l0).trans HF.out.1;have z5:=(hb.frozen (p:=⟨w.heap.size,0,none⟩) l0).trans HF.out.2.1;have HB:=aj (HF.out.2.2.2.trans (hb.mono HF.out.2.2.2.size));clear hb l0 H;rcases hr with ⟨v,rfl,hR⟩ | ⟨hQ,rfl⟩
 ·have HR:=aj hR;clear hR;go_wp2_with fail;refine leaves_cons (f:=115) (args:=#[.pointer (some ⟨w.heap.size,0,none⟩)]) (by simp) (by simp [go_sem]) ?_;refine (JM w.heap.size _).mono ?_;rintro e u' w'' ⟨rfl,rfl,rfl⟩;simp only [Leaves,settle];refine ⟨_,by simp [results,Tryz.results83,go_sem, *],?_,Or.inl ⟨_,w1,rfl,HR.out,?_,HB.out⟩⟩
  ·exact HB.out.setCell (Nat.le_refl _) _
  ·exact (oh.refl _ _).set (by omega) _ _
 ·have HQ:=aj hQ;clear hQ;go_wp2_with fail;refine leaves_cons (f:=115) (args:=#[.pointer (some ⟨w.heap.size,0,none⟩)]) (by simp) (by simp [go_sem]) ?_;refine (Bh w.heap.size 8 _ _ a5 z5).mono ?_;rintro e u' w'' ⟨rfl,rfl,rfl⟩;simp only [settle];refine ⟨_,by simp [results,Tryz.results83,go_sem, *],?_,Or.inr ⟨HQ.out,rfl⟩⟩;exact HB.out.setCell (Nat.le_refl _) _
def PG (w0:lN) (t:T) (w:World) (e:Ending) (w':World):Prop :=
 Below w.heap.size w w'/\((bH 16 t=true/\∃ fv,e=.returned (.tuple #[fv,.int .i64 0])/\iG w0 w' (aT w w') 16 fv t)\/(bH 16 t=false/\e=.returned (.tuple #[.slice none 0 0,.int .i64 8])))
theorem Gu {Tb:World->Prop} (hS:dw Tb) (hL:aS Tb) (w0:lN) (f:Nat) (v:Value) (t:T) (w:World) (hf:f<=16) (ha:xS w0 f v t) (kj:bM t) (hb0:Below w0.w.heap.size w0.w w) (hT:Tb w) (p:Nat)
  (La Ka:Option Addr) (Lc Kc:Nat) (hv:v=.agg #[.int .i64 (ah t),.int .i64 (au t),.string (ay t),.slice La (nL t) Lc,.slice Ka (nK t) Kc])
  (q0:w.cell? ⟨p,0,none⟩=some (.int .i64 (ah t))) (q1:w.cell? ⟨p,1,none⟩=some (.int .i64 (au t))) (q2:w.cell? ⟨p,2,none⟩=some (.string (ay t))) (q3:w.cell? ⟨p,3,none⟩=some (.slice La (nL t) Lc)) (q4:w.cell? ⟨p,4,none⟩=some (.slice Ka (nK t) Kc)) :
  Calls Tryz.prog 84 #[.pointer (some ⟨p,0,none⟩)] w (aaY (bH 16 t=false) (fun fv w'=>bH 16 t=true/\iG w0 w' (aT w w') 16 fv t) w):=by
 subst hv;have HC:=aj (U2 hS hL w0 f 16 _ t w hf ha hf kj hb0 hT);clear ha kj hb0 hT hS hL hf;go_in;go_wp2_with fail;refine HC.out.mono ?_;rintro e w3 ⟨b3,⟨hok,fv,rfl,hr⟩ | ⟨hok,rfl⟩⟩
 ·have HB3:=aj b3;have HR:=aj hr;have HK:=aj hok;clear b3 hr hok;go_wp2_with fail;go_ret;exact ⟨HB3.out,.inl ⟨_,rfl,HK.out,HR.out⟩⟩
 ·exact ⟨rfl,b3,.inr ⟨hok,rfl⟩⟩
theorem vo {Tb:World->Prop} (hS:dw Tb) (hL:aS Tb) (w0:lN) (f:Nat) (v:Value) (t:T) (w:World) (hf:f<=16) (ha:xS w0 f v t) (kj:bM t) (hb0:Below w0.w.heap.size w0.w w) (hT:Tb w) :
  Calls Tryz.prog 55 #[v] w (PG w0 t w):=by
 have QM:∀ (fn:Fn) (first cap:Array Value) (w:World),(Instr.makeFunc fn first cap).run Tryz.prog w=.ok (.func fn first cap) w:=fun _ _ _ _=>rfl;obtain ⟨g1,La,Ka,Lc,Kc,hg1,hv,_,_,_⟩:=ha.open;have HB1:=aj (aQ w (vC t La Lc Ka Kc));have HE:=aj (gJ (w.alloc (vC t La Lc Ka Kc)));have hbb:Below (w.heap.size+1) (w.alloc (vC t La Lc Ka Kc)) (dX (w.alloc (vC t La Lc Ka Kc))):=HE.out.2.2.2.mono (by simp);obtain ⟨q0,q1,q2,q3,q4,hz,hbw⟩:=dB hbb;have HI:=aj (Gu hS hL w0 f v t (dX (w.alloc (vC t La Lc Ka Kc))) hf ha kj (hb0.trans (hbw.mono hb0.size)) (hL w hT _ _ hT hbw) w.heap.size La Ka Lc Kc hv q0 q1 q2 q3 q4);have HA:=aj (U3 84 (fun _ _=>rfl) (bH 16 t=false) _ (.pointer (some ⟨w.heap.size,0,none⟩)) _ HI.out);subst hv;clear ha kj hb0 hT hS hL hf hbb q0 q1 q2 q3 q4 hz hbw HI;go_in;go_wp2_with fail;refine HA.out.mono ?_;rintro e w3 ⟨b3,⟨x,w2,rfl,⟨hok,hr⟩,hab,hb2⟩ | ⟨hok,rfl⟩⟩
 ·have HB3:=aj (HB1.out.trans (b3.mono HB1.out.size));have HK:=aj hok
  have mv:∀ b,aT (dX (w.alloc (vC t La Lc Ka Kc))) w2 b->w3.heap[b]?=w2.heap[b]?/\aT w w3 b:=fun b hb=>by
   have h1:=HE.out.2.2.1;have h2:=hb.1;have h3:=hab.size;have h4:=hb.2;have h5:(w.alloc (vC t La Lc Ka Kc)).heap.size=w.heap.size+1:=by simp
   exact ⟨hab.block b (by omega),by omega,by omega⟩
  have HR:=aj (iG.move (w0:=w0) mv 16 _ _ hr);clear b3 hr hok hab hb2 mv;go_wp2_with fail;refine bodyPost_ret (v:=.tuple #[x,.int .i64 0]) (by simp [results,Tryz.results55,go_sem, *]) rfl ?_;exact ⟨HB3.out,.inl ⟨HK.out,_,rfl,HR.out⟩⟩
 ·have HB3:=aj (HB1.out.trans (b3.mono HB1.out.size));have HK:=aj hok;clear b3 hok;go_wp2_with fail;refine bodyPost_ret (v:=.tuple #[.slice none 0 0,.int .i64 8]) (by simp [results,Tryz.results55,go_sem, *]) rfl ?_;exact ⟨HB3.out,.inr ⟨HK.out,rfl⟩⟩
end Go.Proofs.YtknakfpciccoaabGreatDoor
/- Contracts of the library's shelf, laid at this dump: strings.Builder's WriteByte and WriteString, strconv.FormatInt. -/
namespace Go.Proofs
open Go.Shelf
def Tryz.laysWriteByte_ren:Go.Shelf.Ren:=⟨fun | 167=>130 | 240=>128 | 276=>151 | n=>n,fun | 0=>0 | 4=>4 | 5=>5 | 9=>9 | 20=>20 | 37=>98 | 70=>106 | 72=>108 | 75=>137 | 164=>222 | 80=>110 | n=>n,fun | n=>n⟩
theorem Tryz.laysWriteByte:Go.Proofs.Lays.n167 Tryz.prog Tryz.laysWriteByte_ren:={
 mixed:=by kernel_rfl
 f167:=Tryz.func130.trans (congrArg some (by kernel_rfl))
 f240:=Tryz.func128.trans (congrArg some (by kernel_rfl))
 f276:=Tryz.func151.trans (congrArg some (by kernel_rfl))
 t0:=Tryz.underlying0
 a0:=Tryz.isAgg0
 z0:=Tryz.sizeOf0
 v0:=Tryz.zeroValue0
 t4:=Tryz.underlying4
 a4:=Tryz.isAgg4
 z4:=Tryz.sizeOf4
 v4:=Tryz.zeroValue4
 t5:=Tryz.underlying5
 a5:=Tryz.isAgg5
 z5:=Tryz.sizeOf5
 v5:=Tryz.zeroValue5
 t9:=Tryz.underlying9
 a9:=Tryz.isAgg9
 z9:=Tryz.sizeOf9
 v9:=Tryz.zeroValue9
 t20:=Tryz.underlying20
 a20:=Tryz.isAgg20
 z20:=Tryz.sizeOf20
 v20:=Tryz.zeroValue20
 t37:=Tryz.underlying98
 a37:=Tryz.isAgg98
 z37:=Tryz.sizeOf98
 v37:=Tryz.zeroValue98
 t70:=Tryz.underlying106
 a70:=Tryz.isAgg106
 z70:=Tryz.sizeOf106
 v70:=Tryz.zeroValue106
 t72:=Tryz.underlying108
 a72:=Tryz.isAgg108
 z72:=Tryz.sizeOf108
 v72:=Tryz.zeroValue108
 t75:=Tryz.underlying137
 a75:=Tryz.isAgg137
 z75:=Tryz.sizeOf137
 v75:=Tryz.zeroValue137
 t164:=Tryz.underlying222
 a164:=Tryz.isAgg222
 z164:=Tryz.sizeOf222
 v164:=Tryz.zeroValue222 }
theorem Tryz.extraWriteByte:Go.Proofs.Builder.Extra Tryz.prog Tryz.laysWriteByte_ren:={
 sizeBuilder:=by kernel_rfl
 liesBuilder:=by kernel_rfl
 t5:=Tryz.underlying5
 a5:=Tryz.isAgg5
 z5:=Tryz.sizeOf5
 v5:=Tryz.zeroValue5
 infoByte:=by kernel_rfl
 cellsByte:=by kernel_rfl
 sizeByte:=by kernel_rfl
 neB5:=by decide }
def Tryz.laysWriteString_ren:Go.Shelf.Ren:=⟨fun | 166=>95 | 240=>128 | 276=>151 | n=>n,fun | 0=>0 | 3=>3 | 4=>4 | 9=>9 | 20=>20 | 37=>98 | 70=>106 | 72=>108 | 75=>137 | 164=>222 | 80=>110 | n=>n,fun | n=>n⟩
theorem Tryz.laysWriteString:Go.Proofs.Lays.n166 Tryz.prog Tryz.laysWriteString_ren:={
 mixed:=by kernel_rfl
 f166:=Tryz.func95.trans (congrArg some (by kernel_rfl))
 f240:=Tryz.func128.trans (congrArg some (by kernel_rfl))
 f276:=Tryz.func151.trans (congrArg some (by kernel_rfl))
 t0:=Tryz.underlying0
 a0:=Tryz.isAgg0
 z0:=Tryz.sizeOf0
 v0:=Tryz.zeroValue0
 t3:=Tryz.underlying3
 a3:=Tryz.isAgg3
 z3:=Tryz.sizeOf3
 v3:=Tryz.zeroValue3
 t4:=Tryz.underlying4
 a4:=Tryz.isAgg4
 z4:=Tryz.sizeOf4
 v4:=Tryz.zeroValue4
 t9:=Tryz.underlying9
 a9:=Tryz.isAgg9
 z9:=Tryz.sizeOf9
 v9:=Tryz.zeroValue9
 t20:=Tryz.underlying20
 a20:=Tryz.isAgg20
 z20:=Tryz.sizeOf20
 v20:=Tryz.zeroValue20
 t37:=Tryz.underlying98
 a37:=Tryz.isAgg98
 z37:=Tryz.sizeOf98
 v37:=Tryz.zeroValue98
 t70:=Tryz.underlying106
 a70:=Tryz.isAgg106
 z70:=Tryz.sizeOf106
 v70:=Tryz.zeroValue106
 t72:=Tryz.underlying108
 a72:=Tryz.isAgg108
 z72:=Tryz.sizeOf108
 v72:=Tryz.zeroValue108
 t75:=Tryz.underlying137
 a75:=Tryz.isAgg137
 z75:=Tryz.sizeOf137
 v75:=Tryz.zeroValue137
 t164:=Tryz.underlying222
 a164:=Tryz.isAgg222
 z164:=Tryz.sizeOf222
 v164:=Tryz.zeroValue222 }
theorem Tryz.extraWriteString:Go.Proofs.Builder.Extra Tryz.prog Tryz.laysWriteString_ren:={
 sizeBuilder:=by kernel_rfl
 liesBuilder:=by kernel_rfl
 t5:=Tryz.underlying5
 a5:=Tryz.isAgg5
 z5:=Tryz.sizeOf5
 v5:=Tryz.zeroValue5
 infoByte:=by kernel_rfl
 cellsByte:=by kernel_rfl
 sizeByte:=by kernel_rfl
 neB5:=by decide }
def Tryz.laysFormat_ren:Go.Shelf.Ren:=⟨fun | 173=>97 | 246=>42 | 283=>67 | 284=>68 | 285=>69 | 286=>70 | 129=>102 | 317=>101 | 318=>103 | 319=>104 | 320=>105 | 337=>131 | 338=>132 | n=>n,fun | 2=>2 | 3=>3 | 9=>9 | 4=>4 | 171=>111 | 0=>0 | 53=>112 | 37=>98 | 5=>5 | 173=>115 | 212=>145 | 51=>146 | 20=>20 | 213=>147 | 46=>148 | 232=>224 | 233=>225 | n=>n,fun | 17=>0 | 18=>3 | 19=>4 | n=>n⟩
theorem Tryz.laysFormat:Go.Proofs.LaysM.n173 Tryz.prog Tryz.laysFormat_ren:={
 mixed:=by kernel_rfl
 f129:=Tryz.func102.trans (congrArg some (by kernel_rfl))
 f173:=Tryz.func97.trans (congrArg some (by kernel_rfl))
 f246:=Tryz.func42.trans (congrArg some (by kernel_rfl))
 f283:=Tryz.func67.trans (congrArg some (by kernel_rfl))
 f284:=Tryz.func68.trans (congrArg some (by kernel_rfl))
 f285:=Tryz.func69.trans (congrArg some (by kernel_rfl))
 f286:=Tryz.func70.trans (congrArg some (by kernel_rfl))
 f317:=Tryz.func101.trans (congrArg some (by kernel_rfl))
 f318:=Tryz.func103.trans (congrArg some (by kernel_rfl))
 f319:=Tryz.func104.trans (congrArg some (by kernel_rfl))
 f320:=Tryz.func105.trans (congrArg some (by kernel_rfl))
 f337:=Tryz.func131.trans (congrArg some (by kernel_rfl))
 f338:=Tryz.func132.trans (congrArg some (by kernel_rfl))
 t0:=Tryz.underlying0
 a0:=Tryz.isAgg0
 z0:=Tryz.sizeOf0
 v0:=Tryz.zeroValue0
 t2:=Tryz.underlying2
 a2:=Tryz.isAgg2
 z2:=Tryz.sizeOf2
 v2:=Tryz.zeroValue2
 t3:=Tryz.underlying3
 a3:=Tryz.isAgg3
 z3:=Tryz.sizeOf3
 v3:=Tryz.zeroValue3
 t4:=Tryz.underlying4
 a4:=Tryz.isAgg4
 z4:=Tryz.sizeOf4
 v4:=Tryz.zeroValue4
 t5:=Tryz.underlying5
 a5:=Tryz.isAgg5
 z5:=Tryz.sizeOf5
 v5:=Tryz.zeroValue5
 t9:=Tryz.underlying9
 a9:=Tryz.isAgg9
 z9:=Tryz.sizeOf9
 v9:=Tryz.zeroValue9
 t20:=Tryz.underlying20
 a20:=Tryz.isAgg20
 z20:=Tryz.sizeOf20
 v20:=Tryz.zeroValue20
 t37:=Tryz.underlying98
 a37:=Tryz.isAgg98
 z37:=Tryz.sizeOf98
 v37:=Tryz.zeroValue98
 t46:=Tryz.underlying148
 a46:=Tryz.isAgg148
 z46:=Tryz.sizeOf148
 v46:=Tryz.zeroValue148
 t51:=Tryz.underlying146
 a51:=Tryz.isAgg146
 z51:=Tryz.sizeOf146
 v51:=Tryz.zeroValue146
 t53:=Tryz.underlying112
 a53:=Tryz.isAgg112
 z53:=Tryz.sizeOf112
 v53:=Tryz.zeroValue112
 t171:=Tryz.underlying111
 a171:=Tryz.isAgg111
 z171:=Tryz.sizeOf111
 v171:=Tryz.zeroValue111
 t173:=Tryz.underlying115
 a173:=Tryz.isAgg115
 z173:=Tryz.sizeOf115
 v173:=Tryz.zeroValue115
 t212:=Tryz.underlying145
 a212:=Tryz.isAgg145
 z212:=Tryz.sizeOf145
 v212:=Tryz.zeroValue145
 t213:=Tryz.underlying147
 a213:=Tryz.isAgg147
 z213:=Tryz.sizeOf147
 t232:=Tryz.underlying224
 a232:=Tryz.isAgg224
 z232:=Tryz.sizeOf224
 v232:=Tryz.zeroValue224
 t233:=Tryz.underlying225
 a233:=Tryz.isAgg225
 z233:=Tryz.sizeOf225
 v233:=Tryz.zeroValue225
 g17:=by kernel_rfl
 g18:=by kernel_rfl
 g19:=by kernel_rfl
 i0:=by kernel_rfl
 i2:=by kernel_rfl
 i3:=by kernel_rfl
 i4:=by kernel_rfl
 i5:=by kernel_rfl
 i9:=by kernel_rfl
 i20:=by kernel_rfl
 i37:=by kernel_rfl
 i46:=by kernel_rfl
 i51:=by kernel_rfl
 i53:=by kernel_rfl
 i171:=by kernel_rfl
 i173:=by kernel_rfl
 i212:=by kernel_rfl
 i232:=by kernel_rfl
 i233:=by kernel_rfl
 m17:=by kernel_rfl
 m18:=by kernel_rfl
 m19:=by kernel_rfl }
end Go.Proofs
/- Values as texts, pure: what is written; the builder's writers. -/
namespace Go.Proofs.YtknakfpciccoaabGreatDoor
open Go.RowKit
def zB (n:Nat):UInt8:=if n<10 then UInt8.ofNat (48+n) else UInt8.ofNat (87+n)
def jO (c:UInt8):List UInt8:=if c.toNat=34\/c.toNat=92 then [92,c] else if c.toNat<32 then [92,117,48,48,zB (c.toNat / 16),zB (c.toNat % 16)] else [c]
def iH (s:ByteArray) (k:Nat):List UInt8:=(s.data.toList.take k).flatMap jO
def dK (s:ByteArray):List UInt8:=34::(iH s s.size++[34])
theorem ML (s:ByteArray):iH s 0=[]:=by simp [iH]
theorem Bj {s:ByteArray} {k:Nat} {z:UInt8} (h:s.data[k]?=some z):iH s (k+1)=iH s k++jO z:=by
 have h':s.data.toList[k]?=some z:=by rw [Array.getElem?_toList];exact h
 unfold iH;rw [List.take_add_one,h'];simp
theorem JN {s:ByteArray} {k:Nat} {z:UInt8} (h:k<s.size) (e:s[k]'h=z):s.data[k]?=some z:=by
 rw [<- e];exact Array.getElem?_eq_getElem h
theorem U4 (c:UInt8):(jO c).length<=6:=by unfold jO;split<;>(try split)<;>simp
theorem Ei (s:ByteArray):∀ k,(iH s k).length<=6*k
 | 0=>by simp [iH]
 | k+1=>by
  have ih:=Ei s k;cases h:s.data[k]? with
  | none =>
   have h':s.data.toList.length<=k:=by simpa using h
   have:iH s (k+1)=iH s k:=by unfold iH;rw [List.take_of_length_le (by omega),List.take_of_length_le h']
   rw [this];omega
  | some z =>
   rw [Bj h,List.length_append];have:=U4 z;omega
theorem JO (s:ByteArray):(dK s).length<=6*s.size+2:=by
 have:=Ei s s.size;simp [dK];omega
def fB (t:T):List UInt8 :=
 if ah t=1 then [110,117,108,108] else if ah t=2 then (if au t=1 then [116,114,117,101] else [102,97,108,115,101]) else if ah t=3 then Lib.itoa (au t) else if ah t=4 then dK (ay t) else []
def fq (g:T->List UInt8) (t:T):Nat->List UInt8
 | 0=>[]
 | k+1=>fq g t k++((if k=0 then [] else [44])++g (elt t k))
def fV (g:T->List UInt8) (t:T):Nat->List UInt8
 | 0=>[]
 | k+1=>fV g t k++((if k=0 then [] else [44])++(dK (bR t k)++(58::g (elt t k))))
def dG:Nat->T->List UInt8
 | 0,t=>fB t
 | m+1,t=>if ah t=5 then 91::(fq (dG m) t (nL t)++[93]) else if ah t=6 then 123::(fV (dG m) t (nK t)++[125]) else fB t
theorem MN (g : T -> List UInt8) (t : T) {k n : Nat} (h : k <= n) : (fq g t k).length <= (fq g t n).length := by
  induction n with
  | zero => have : k = 0 := by omega
            subst this; exact Nat.le_refl _
  | succ n ih =>
    by_cases e : k = n + 1
    · subst e; exact Nat.le_refl _
    · have := ih (by omega);simp only [fq, List.length_append];omega
theorem MO (g : T -> List UInt8) (t : T) {k n : Nat} (h : k <= n) : (fV g t k).length <= (fV g t n).length := by
  induction n with
  | zero => have : k = 0 := by omega
            subst this; exact Nat.le_refl _
  | succ n ih =>
    by_cases e : k = n + 1
    · subst e; exact Nat.le_refl _
    · have := ih (by omega);simp only [fV, List.length_append];omega
structure tK (B b:Nat) (acc:List UInt8) (w w':World):Prop where
 Iy:Lib.IsBuilderF 108 5 B b (Lib.byteCells acc) w'
 below:Below B w w'
 oth:Lib.OthersKept 5 (some b) w w'
 lo:B<=w.heap.size
theorem tK.trans {B b:Nat} {acc acc':List UInt8} {w w1 w2:World} (h:tK B b acc w w1) (k:tK B b acc' w1 w2):tK B b acc' w w2 :=
 ⟨k.Iy,h.below.trans k.below,h.oth.trans k.oth,h.lo⟩
theorem tK.lo' {B b:Nat} {acc:List UInt8} {w w1:World} (h:tK B b acc w w1):B<=w1.heap.size:=Nat.le_trans h.lo h.below.size
theorem tK.acc {B b:Nat} {acc acc':List UInt8} {w w1:World} (h:tK B b acc w w1) (e:acc=acc'):tK B b acc' w w1:=e ▸ h
theorem tK.keep {B b:Nat} {acc:List UInt8} {w w1 w2:World} (h:tK B b acc w w1) (k:Below w1.heap.size w1 w2):tK B b acc w w2 :=
 ⟨h.Iy.elim (fun x=>.inl ⟨x.1,by
   obtain ⟨v,hb,hown,hne⟩:=x.2;exact ⟨v,(k.block b (Array.getElem?_eq_some_iff.1 hb).1).trans hb,xK hown (fun i _ h2=>k.block i h2),hne⟩⟩) (fun x=>.inr ⟨x.1,by
   obtain ⟨v,hb,hown,hne⟩:=x.2;exact ⟨v,(k.block b (Array.getElem?_eq_some_iff.1 hb).1).trans hb,xK hown (fun i _ h2=>k.block i h2),hne⟩⟩),
  h.below.trans (k.mono (Nat.le_trans h.lo h.below.size)),
  fun i o hi hb ho=>by
   have h1:=h.oth i o hi hb ho;exact (k.block i (Array.getElem?_eq_some_iff.1 h1).1).trans h1,h.lo⟩
theorem tK.start {B b:Nat} {acc:List UInt8} {w:World} (h:Lib.IsBuilderF 108 5 B b (Lib.byteCells acc) w) (hB:B<=w.heap.size):tK B b acc w w :=
 ⟨h,Below.refl _ _,Lib.OthersKept.refl _ _ _,hB⟩
def Ej (B b:Nat) (acc:List UInt8) (w:World) (e:Ending) (w':World):Prop:=e=.returned (.tuple #[])/\tK B b acc w w'
theorem dL (B b:Nat) (acc:List UInt8) (c:UInt8) (w0 w:World) (h:tK B b acc w0 w) (hl:acc.length<=1000000000) :
  Calls Tryz.prog 130 #[.pointer (some ⟨b,0,none⟩),.int .u8 (c.toNat:Int)] w fun e w'=>e=.returned .nilIface/\tK B b (acc++[c]) w w':=by
 refine (Any.Builder_WriteByte_k Tryz.laysWriteByte Tryz.extraWriteByte B b (Lib.byteCells acc) (c.toNat:Int) w h.Iy (by rw [Lib.byteCells_length];omega) h.lo').mono ?_;rintro e w' ⟨rfl,h1,b1,o1⟩;refine ⟨rfl,⟨Or.inr ?_,b1,o1,h.lo'⟩⟩;rw [Lib.byteCells_append];exact h1
theorem r9 (B b:Nat) (acc:List UInt8) (s:ByteArray) (w0 w:World) (h:tK B b acc w0 w) (hl:acc.length+s.size<=1000000000) :
  Calls Tryz.prog 95 #[.pointer (some ⟨b,0,none⟩),.string s] w fun e w'=>e=.returned (.tuple #[.int .i64 s.size,.nilIface])/\tK B b (acc++s.data.toList) w w':=by
 refine (Any.Builder_WriteString_k Tryz.laysWriteString Tryz.extraWriteString B b (Lib.byteCells acc) s w h.Iy (by rw [Lib.byteCells_length];omega) h.lo').mono ?_;rintro e w' ⟨rfl,h1,b1,o1⟩;refine ⟨rfl,⟨Or.inr ?_,b1,o1,h.lo'⟩⟩;rw [Lib.byteCells_append];exact h1
theorem MP {c:UInt8} (h:c.toNat=34\/c.toNat=92):jO c=[92,c]:=by unfold jO;rw [if_pos h]
theorem MQ {c:UInt8} (h:¬ (c.toNat=34\/c.toNat=92)) (h':c.toNat<32):jO c=[92,117,48,48,zB (c.toNat / 16),zB (c.toNat % 16)]:=by unfold jO;rw [if_neg h,if_pos h']
theorem U5 {c:UInt8} (h:¬ (c.toNat=34\/c.toNat=92)) (h':¬ c.toNat<32):jO c=[c]:=by unfold jO;rw [if_neg h,if_neg h']
def Y5:ByteArray:=⟨#[48,49,50,51,52,53,54,55,56,57,97,98,99,100,101,102]⟩
theorem U6:∀ n:Fin 16,Y5[n.1]'n.2=zB n.1:=by decide
theorem PI {n:Nat} (h:n<16):Y5[n]'h=zB n:=U6 ⟨n,h⟩
theorem MR (s:ByteArray) (k:Nat):(iH s k).length<=(iH s s.size).length:=by
 have e:iH s s.size=iH s k++(s.data.toList.drop k).flatMap jO:=by
  unfold iH;have e2:s.data.toList.take s.size=s.data.toList:=List.take_of_length_le (by show s.data.toList.length<=s.data.size;rw [Array.length_toList];exact Nat.le_refl _);rw [e2,<- List.flatMap_append,List.take_append_drop]
 rw [e];simp
theorem uP (B b:Nat) (acc:List UInt8) (s:ByteArray) (w:World) (h:Lib.IsBuilderF 108 5 B b (Lib.byteCells acc) w) (hB:B<=w.heap.size) (hl:acc.length+(dK s).length<=100000000) (hs:s.size<=140737488355328) :
  Calls Tryz.prog 98 #[.pointer (some ⟨b,0,none⟩),.string s] w (Ej B b (acc++dK s) w):=by
 have HQ:Hid (∀ k,k<=s.size->(iH s k).length+acc.length+1<=100000000):=aj (fun k hk=>by
  have:=MR s k;simp [dK] at hl;omega)
 have HE:Hid (acc++dK s=acc++[34]++iH s s.size++[34]):=by show _=_;simp [dK]
 have hl0:acc.length<=100000000:=by omega
 have HS:=aj (tK.start h hB);clear h hl;go_in;go_wp2_with fail;refine (dL B b acc 34 w w HS.out (by omega)).mono ?_;rintro e w1 ⟨rfl,hw1⟩;have H1:=aj hw1;clear hw1;go_wp2_with fail;go_loopg [10] (s.size) (fun g i wr=>∃ k:Nat,g=s.size - k/\k<=s.size/\i=.int .i64 k/\Hid (tK B b (acc++[34]++iH s k) w wr))
 case atStart=>exact ⟨0,rfl,Nat.zero_le _,rfl,H1.out.acc (by simp [ML])⟩
 case round =>
  obtain ⟨k,rfl,hk,rfl,HW⟩:=hrel;have hq:=HQ.out k hk;have hlk:(acc++[34]++iH s k).length<=100000000:=by simp;omega
  by_cases hlt:k<s.size
  ·obtain ⟨z,hz⟩:∃ z:UInt8,s[k]'hlt=z:=⟨_,rfl⟩;have HZ:=aj (Bj (JN hlt hz));have x1:(k:Int)<(s.size:Int):=by omega
   have lz:z.toNat<256:=z.toNat_lt;have hne:∀ (a:List UInt8),(acc++[34]++iH s k++a).length<=100000000+a.length:=fun a=>by rw [List.length_append];omega
   have HN:=aj hne;clear hne;by_cases hq2:z.toNat=34\/z.toNat=92
   ·have HC:=aj (MP hq2);rcases hq2 with hq2 | hq2
    ·have y1:((z.toNat:Int)==34)=true:=by rw [beq_iff_eq];omega
     clear hq2;go_wp2_with fail;refine (dL B b _ 92 w wr HW.out (by omega)).mono ?_;rintro e w2 ⟨rfl,hw2⟩;have H2:=aj (HW.out.trans hw2);clear hw2;go_wp2_with fail;refine (dL B b _ z w w2 H2.out (by have:=HN.out [92];simp only [List.length_singleton] at this;omega)).mono ?_;rintro e w3 ⟨rfl,hw3⟩;have H3:=aj (H2.out.trans hw3);clear hw3;go_wp2_with fail;go_roundg (s.size - (k+1))
     case rel=>exact ⟨k+1,rfl,by omega,by go_num,H3.out.acc (by rw [HZ.out,HC.out];simp)⟩
     case measure=>omega
    ·have y0:((z.toNat:Int)==34)=false:=by rw [beq_eq_false_iff_ne];omega
     have y1:((z.toNat:Int)==92)=true:=by rw [beq_iff_eq];omega
     clear hq2;go_wp2_with fail;refine (dL B b _ 92 w wr HW.out (by omega)).mono ?_;rintro e w2 ⟨rfl,hw2⟩;have H2:=aj (HW.out.trans hw2);clear hw2;go_wp2_with fail;refine (dL B b _ z w w2 H2.out (by have:=HN.out [92];simp only [List.length_singleton] at this;omega)).mono ?_;rintro e w3 ⟨rfl,hw3⟩;have H3:=aj (H2.out.trans hw3);clear hw3;go_wp2_with fail;go_roundg (s.size - (k+1))
     case rel=>exact ⟨k+1,rfl,by omega,by go_num,H3.out.acc (by rw [HZ.out,HC.out];simp)⟩
     case measure=>omega
   ·have y34:((z.toNat:Int)==34)=false:=by rw [beq_eq_false_iff_ne];omega
    have y92:((z.toNat:Int)==92)=false:=by rw [beq_eq_false_iff_ne];omega
    by_cases hu:z.toNat<32
    ·have HC:=aj (MQ hq2 hu);have y1:decide ((z.toNat:Int)<32)=true:=decide_eq_true (by omega);clear hq2;go_wp2_with fail;refine (r9 B b _ ⟨#[92,117,48,48]⟩ w wr HW.out (by show _+4<=_;omega)).mono ?_;rintro e w2 ⟨rfl,hw2⟩;have H2:=aj (HW.out.trans hw2);clear hw2;have n1:z.toNat / 16<16:=by omega
     have n2:z.toNat % 16<16:=by omega
     go_wp2_with fail;refine (dL B b _ (Y5[z.toNat / 16]'n1) w w2 H2.out (by have:=HN.out [92,117,48,48];simp only [List.length_cons,List.length_nil] at this;simp only [List.length_append,List.length_cons,List.length_nil] at this ⊢;omega)).mono ?_;rintro e w3 ⟨rfl,hw3⟩;have H3:=aj (H2.out.trans hw3);clear hw3;go_wp2_with fail;refine (dL B b _ (Y5[z.toNat % 16]'n2) w w3 H3.out (by have:=HN.out [92,117,48,48];simp only [List.length_append,List.length_cons,List.length_nil] at this ⊢;omega)).mono ?_;rintro e w4 ⟨rfl,hw4⟩;have H4:=aj (H3.out.trans hw4);clear hw4;go_wp2_with fail;go_roundg (s.size - (k+1))
     case rel=>exact ⟨k+1,rfl,by omega,by go_num,H4.out.acc (by rw [HZ.out,HC.out,PI,PI];simp)⟩
     case measure=>omega
    ·have HC:=aj (U5 hq2 hu);have y1:decide ((z.toNat:Int)<32)=false:=decide_eq_false (by omega);clear hq2;go_wp2_with fail;refine (dL B b _ z w wr HW.out (by omega)).mono ?_;rintro e w2 ⟨rfl,hw2⟩;have H2:=aj (HW.out.trans hw2);clear hw2;go_wp2_with fail;go_roundg (s.size - (k+1))
     case rel=>exact ⟨k+1,rfl,by omega,by go_num,H2.out.acc (by rw [HZ.out,HC.out];simp)⟩
     case measure=>omega
  ·obtain rfl:k=s.size:=by omega
   go_wp2_with fail;refine (dL B b _ 34 w wr HW.out (by omega)).mono ?_;rintro e w2 ⟨rfl,hw2⟩;have H2:=aj hw2;clear hw2;go_wp2_with fail;refine bodyPost_end (v:=.tuple #[]) (by simp [results,Tryz.results98,go_sem]) rfl ?_;exact ⟨rfl,(HW.out.trans H2.out).acc HE.out.symm⟩
def JQ:List UInt8:=[116,114,117,101]
def Bl:List UInt8:=[102,97,108,115,101]
def qD (Tb:World->Prop):Prop:=∀ (n:Int) (w:World),-9223372036854775808<=n->n<=9223372036854775807->Tb w->Calls Tryz.prog 97 #[.int .i64 n,.int .i64 10] w fun e w'=>e=.returned (.string (aY (Lib.itoa n)))/\Below w.heap.size w w'
theorem U7 (b:Bool) (w:World):Calls Tryz.prog 129 #[.bool b] w fun e w'=>e=.returned (.string (aY (if b then JQ else Bl)))/\w'=w:=by
 go_in;cases b
 ·go_wp2_with fail;go_ret;exact ⟨rfl,rfl⟩
 ·go_wp2_with fail;go_ret;exact ⟨rfl,rfl⟩
theorem El (b:Bool) (w:World):Calls Tryz.prog 96 #[.bool b] w fun e w'=>e=.returned (.string (aY (if b then JQ else Bl)))/\w'=w:=by
 have HF:=aj (U7 b w);generalize aY (if b=true then JQ else Bl)=s at HF ⊢;go_in;go_wp2_with fail;refine HF.out.mono ?_;rintro e w1 ⟨rfl,rfl⟩;go_wp2_with fail;go_ret;exact ⟨rfl,rfl⟩
def Bn (Tb:World->Prop) (w0:World) (m:Nat):Prop:=∀ (f:Nat) (v:Value) (t:T) (acc:List UInt8) (b:Nat) (w:World),
 At w0 f v t->fJ m t->Below w0.heap.size w0 w->Lib.IsBuilderF 108 5 w0.heap.size b (Lib.byteCells acc) w->Tb w->acc.length+(dG m t).length<=100000000 ->
  Calls Tryz.prog 65 #[.pointer (some ⟨b,0,none⟩),v] w (Ej w0.heap.size b (acc++dG m t) w)
theorem pX {m:Nat} {t:T} (h5:ah t≠5) (h6:ah t≠6):dG m t=fB t:=by
 cases m with
 | zero=>rfl
 | succ m=>unfold dG;rw [if_neg h5,if_neg h6]
theorem Bo {Tb:World->Prop} (hF:qD Tb) (w0:World) (hS:eG Tb w0.heap.size) (t:T) (hg:bg t) (ht:zk t) (acc:List UInt8) (b:Nat) (w:World) (La Ka:Option Addr) (Lc Kc:Nat)
  (hb:Below w0.heap.size w0 w) (h:Lib.IsBuilderF 108 5 w0.heap.size b (Lib.byteCells acc) w) (hT:Tb w) (hl:acc.length+(fB t).length<=100000000) :
  Calls Tryz.prog 65 #[.pointer (some ⟨b,0,none⟩),.agg #[.int .i64 (ah t),.int .i64 (au t),.string (ay t),.slice La (nL t) Lc,.slice Ka (nK t) Kc]] w (Ej w0.heap.size b (acc++fB t) w):=by
 have HS:=aj (tK.start h hb.size);have HB1:=aj (aQ w (vC t La Lc Ka Kc));have C8:=aj (HS.out.keep HB1.out);have HT1:=aj (hS _ _ hT (HB1.out.mono hb.size));have HF:=aj hF;have HFt:=aj ht;have HST:=aj hS;have Hb:=aj hb;clear h hF ht hT hS hb;obtain ⟨g1,g2,hg⟩:=hg;clear g1 g2;rcases hg with ⟨hk,g3⟩ | ⟨hk,g3⟩ | ⟨hk,g3⟩ | ⟨hk,g3,hsz,g4⟩
 all_goals clear g3
 ·have e1:(ah t==1)=true:=by rw [hk];rfl
  have HW:Hid (fB t=[110,117,108,108]):=by show _=_;unfold fB;rw [if_pos hk]
  rw [HW.out] at hl ⊢;clear hk;go_in;go_wp2_with fail;refine (r9 w0.heap.size b acc ⟨#[110,117,108,108]⟩ w _ C8.out (by show _+4<=_;omega)).mono ?_;rintro e w2 ⟨rfl,hw2⟩;have H2:=aj (C8.out.trans hw2);clear hw2;go_wp2_with fail;refine bodyPost_end (v:=.tuple #[]) (by simp [results,Tryz.results65,go_sem]) rfl ?_;exact ⟨rfl,H2.out⟩
 ·have e1:(ah t==1)=false:=by rw [hk];rfl
  have e2:(ah t==2)=true:=by rw [hk];rfl
  by_cases hn:au t=1
  ·have HW:Hid (fB t=JQ):=by show _=_;unfold fB;rw [if_neg (by omega),if_pos hk,if_pos (by omega)];rfl
   have y:(au t==1)=true:=by rw [beq_iff_eq];exact hn
   have HP:=aj (El true (w.alloc (vC t La Lc Ka Kc)));rw [HW.out] at hl ⊢;have hl0:acc.length<=100000000:=by omega
   clear hk hn hl;go_in;go_wp2_with fail;refine HP.out.mono ?_;rintro e w2 ⟨rfl,rfl⟩;go_wp2_with fail;refine (r9 w0.heap.size b acc (aY JQ) w _ C8.out (by show _+4<=_;omega)).mono ?_;rintro e w2 ⟨rfl,hw2⟩;have H2:=aj (C8.out.trans hw2);clear hw2;go_wp2_with fail;refine bodyPost_end (v:=.tuple #[]) (by simp [results,Tryz.results65,go_sem]) rfl ?_;exact ⟨rfl,H2.out⟩
  ·have HW:Hid (fB t=Bl):=by show _=_;unfold fB;rw [if_neg (by omega),if_pos hk,if_neg (by omega)];rfl
   have y:(au t==1)=false:=by rw [beq_eq_false_iff_ne];exact hn
   have HP:=aj (El false (w.alloc (vC t La Lc Ka Kc)));rw [HW.out] at hl ⊢;have hl0:acc.length<=100000000:=by omega
   clear hk hn hl;go_in;go_wp2_with fail;refine HP.out.mono ?_;rintro e w2 ⟨rfl,rfl⟩;go_wp2_with fail;refine (r9 w0.heap.size b acc (aY Bl) w _ C8.out (by show _+5<=_;omega)).mono ?_;rintro e w2 ⟨rfl,hw2⟩;have H2:=aj (C8.out.trans hw2);clear hw2;go_wp2_with fail;refine bodyPost_end (v:=.tuple #[]) (by simp [results,Tryz.results65,go_sem]) rfl ?_;exact ⟨rfl,H2.out⟩
 ·have e1:(ah t==1)=false:=by rw [hk];rfl
  have e2:(ah t==2)=false:=by rw [hk];rfl
  have e3:(ah t==3)=true:=by rw [hk];rfl
  have HW:Hid (fB t=Lib.itoa (au t)):=by show _=_;unfold fB;rw [hk];rfl
  rw [HW.out] at hl ⊢;have hl0:acc.length<=100000000:=by omega
  have HSZ:=aj (gN (Lib.itoa (au t)));have HLI:=aj (aN (Lib.itoa (au t)));clear hk;go_in;go_wp2_with fail;refine (HF.out _ _ HFt.out.n0 HFt.out.n1 HT1.out).mono ?_;rintro e w2 ⟨rfl,hb2⟩;have HS2:=aj (C8.out.keep hb2);clear hb2;generalize aY (Lib.itoa (au t))=s at HSZ HLI ⊢;go_wp2_with fail;refine (r9 w0.heap.size b acc s w _ HS2.out (by have:=HSZ.out;omega)).mono ?_;rintro e w3 ⟨rfl,hw3⟩;have H3:=aj (HS2.out.trans hw3);clear hw3;go_wp2_with fail;refine bodyPost_end (v:=.tuple #[]) (by simp [results,Tryz.results65,go_sem]) rfl ?_;exact ⟨rfl,H3.out.acc (by rw [HLI.out])⟩
 ·have e1:(ah t==1)=false:=by rw [hk];rfl
  have e2:(ah t==2)=false:=by rw [hk];rfl
  have e3:(ah t==3)=false:=by rw [hk];rfl
  have e4:(ah t==4)=true:=by rw [hk];rfl
  have HW:Hid (fB t=dK (ay t)):=by show _=_;unfold fB;rw [hk];rfl
  rw [HW.out] at hl ⊢;have HP:=aj (uP w0.heap.size b acc (ay t) _ C8.out.Iy C8.out.lo' hl (by omega));clear hk hl g4 hsz;go_in;go_wp2_with fail;refine HP.out.mono ?_;rintro e w2 ⟨rfl,hw2⟩;have H2:=aj (C8.out.trans hw2);clear hw2 HP;go_wp2_with fail;refine bodyPost_end (v:=.tuple #[]) (by simp [results,Tryz.results65,go_sem]) rfl ?_;exact ⟨rfl,H2.out⟩
end Go.Proofs.YtknakfpciccoaabGreatDoor
