import Derived.Test.YtknakfpciccoaaaGreatDoorZC14
import Derived.Test.YtknakfpciccoaaaGreatDoorZC6
import Derived.Shelf.LaysM
import Derived.Shelf.Strings.BuilderK
import Derived.Shelf.Strconv.Itoa4
import Derived.Test.YtknakfpciccoaaaGreatDoorProg
import Derived.Test.YtknakfpciccoaaaGreatDoorZC3
import Derived.Test.YtknakfpciccoaaaGreatDoorZC7
import Derived.Test.YtknakfpciccoaaaGreatDoorZC2
/- The walk of parseFilter. -/
set_option maxHeartbeats 4000000
set_option maxRecDepth 100000
namespace Go.Proofs.YtknakfpciccoaaaGreatDoor
open Go.RowKit
theorem R3 {Tb:World->Prop} (hS:cK Tb) (hL:aV Tb) (w0:lG) (f m:Nat) (ih:tZ Tb w0 f) (x:ByteArray) (j:T) (v:Value) (w:World) (hx:x.size<=4000) (hm:f<=m+1) (ha:yt w0 f v j) (hf:f<=16) (kj:bM j) (hb0:Below w0.w.heap.size w0.w w) (hT:Tb w) :
  Calls Tryz.prog 190 #[.string x,v] w (EF w0 m x j w):=by
 by_cases rE:x=uX
 ·exact GQ hL w0 f m ih x j v w hm ha hf kj hb0 hT rE
 by_cases Ms:x=yh
 ·exact J5 hL w0 f m ih x j v w hm ha hf kj hb0 hT Ms
 by_cases wY:x=zi
 ·exact GR hL w0 f m ih x j v w hm ha hf kj hb0 hT wY
 exact GU hS hL w0 f m x j v w hx ha hf kj hb0 hT ⟨rE,Ms,wY⟩
theorem Qh {Tb:World->Prop} (hS:cK Tb) (hL:aV Tb) (w0:lG) (f:Nat) (ih:tZ Tb w0 f):Ng Tb w0 (f+1):=by
 intro m v t w hm ha hf kj hb0 hT;obtain ⟨m,rfl⟩:∃ x,m=x+1:=⟨m - 1,by omega⟩;obtain ⟨iC,hiC,zC0,zC1,zC2⟩:=info_parts aeV;obtain ⟨g1,La,Ka,Lc,Kc,hg1,rfl,hfj,hel,hnm⟩:=ha.open;obtain rfl:g1=f:=by omega
 have HB1:=ak (aY w (vC t La Lc Ka Kc));have HT:Hid (∀ w':World,Below w.heap.size w w'->Tb w'):=fun w' hb=>hL w hT w w' hT hb;have HPc:Hid (∀ (x:ByteArray) (j:T) (v:Value) (w:World),x.size<=4000->yt w0 g1 v j->bM j->Below w0.w.heap.size w0.w w->Tb w->Calls Tryz.prog 190 #[.string x,v] w (EF w0 m x j w)):=fun x j v w hx ha kj hb hT=>R3 hS hL w0 g1 m ih x j v w hx (by omega) ha (by omega) kj hb hT;have BD:=ak kj;have JQ:=ak hel.out;have Y3:=ak hnm.out;have hnk:=kj.small.1;have hnl:=kj.small.2;clear ha kj ih hel hnm hg1 hfj hT hL hS;by_cases k6:aj t=6
 ·have e6:(aj t==6)=true:=by simpa using k6
  have HKL:=ak (BD.out.names k6);have Gx:Hid (bE (m+1) t=sJ (fun i=>yu (bE m) (bO t i) (elt t i)) (nK t)):=by show _=_;rw [bE,e6];rfl
  clear k6;go_in;go_wp2_with fail;refine (fO true _).mono ?_;rintro e w2 ⟨rfl,he⟩;simp only [if_true] at he;subst he;go_wp2_with fail;go_loopg [3,13] (nK t) (fun g o i wr=>∃ (k:Nat) (xs:List Value),g=nK t - k/\k<=nK t/\i=.int .i64 k/\Hid (Below (w.heap.size+1) (w.alloc (vC t La Lc Ka Kc)) wr)/\Hid (sM (aaO w0 m) 1 175 (w.heap.size+1) o ((lZ t).take k) xs wr)/\Hid (sJ (fun i=>yu (bE m) (bO t i) (elt t i)) k=true))
  case atStart=>exact ⟨0,[],rfl,Nat.zero_le _,rfl,Below.refl _ _,sM.nil _ _ _ _ _,rfl⟩
  case round =>
   obtain ⟨k,xs,rfl,hk,rfl,HB,HL,HN⟩:=hrel;obtain ⟨q0,q1,q2,q3,q4,hz,hbw⟩:=dz HB.out;have qb:=ak (hb0.trans (hbw.mono hb0.size));have iq:=ak hbw;clear hbw;by_cases hlt:k<nK t
   ·have sN:k<nL t:=by have:=HKL.out;omega
    obtain ⟨kb,ko,rfl,hkb,hks,hkc⟩:=Y3.out.keep qb.out k hlt;obtain ⟨bb,oo,A,B,C,D,rfl,hbl,p0,p1,p2,p3,p4,Ha⟩:=JQ.out.shape qb.out k sN;have HC:=ak (HPc.out (bO t k) (elt t k) _ wr (BD.out.bO hlt) Ha.out (BD.out.elt sN) qb.out (HT.out _ iq.out));have HA:Hid (sJ (fun i=>yu (bE m) (bO t i) (elt t i)) (k+1)=yu (bE m) (bO t k) (elt t k)):=by show _=_;rw [sJ,HN.out];simp
    have HA2:Hid (yu (bE m) (bO t k) (elt t k)=false->bE (m+1) t=false):=fun h=>by rw [Gx.out];exact Ar (p:=fun i=>yu (bE m) (bO t i) (elt t i)) h _ hlt
    have IX:=ak (J4 hlt);have hxl:((lZ t).take k).length=k:=by rw [List.length_take,l8];omega
    go_wp2_with fail;refine HC.out.mono ?_;rintro e w3 ⟨b3,⟨hok,fv,rfl,ht⟩ | ⟨hok,rfl⟩⟩
    ·obtain ⟨t6,v6,rfl⟩:=ht.shape;have tV:=ak (HA.out.trans hok);have Y4:=ak ht;have Hb3:=ak b3;have bT:=ak (aY w3 (.cells #[.iface t6 v6] 175));have uI:=ak ((HL.out.keep (om w0 m) Hb3.out).keep (om w0 m) bT.out);have sK:Hid (Src Tryz.prog 1 92 (.slice (some ⟨w3.heap.size,0,none⟩) 1 1) 1 [.iface t6 v6] (w3.alloc (.cells #[.iface t6 v6] 175))):=Src.ofSlice _ Tryz.underlying92 ⟨w3.heap.size,0,none⟩ 1 1 [.iface t6 v6] (by simp) (World.news_of_block (heap_alloc_new w3 _)) (by simp [Value.oneCell']);have hlo:w.heap.size+1<=(w3.alloc (.cells #[.iface t6 v6] 175)).heap.size:=by have:=Hb3.out.size;simp;omega
     clear b3 hok ht HC HA HA2;go_wp2_with (at_builtin;refine aG _ rfl (.tmp 18) (.tmp 26) 92 92 rfl (w.heap.size+1) 175 iC _ 1 16 Tryz.underlying92 hiC zC0 zC1 zC2 rfl u3 ((lZ t).take k).length xs rfl uI.out.row (.slice (some ⟨w3.heap.size,0,none⟩) 1 1) 1 [.iface t6 v6] rfl sK.out (by unfold maxLen;omega) (by omega) hlo ?_;intro v' w6 qX nu dV);have Dl:=ak (HL.out.grow (x:=(bO t k,elt t k)) (cs:=[.iface t6 v6]) (om w0 m) (Hb3.out.trans (bT.out.mono Hb3.out.size)) rfl (om w0 m _ _ _ _ _ _ ⟨_,rfl,Y4.out⟩ (fun b hb=>⟨bT.out.block b hb.2,hb⟩)) (fun b hb=>⟨hb.1,Nat.lt_of_lt_of_le hb.2 bT.out.size⟩) (by omega) qX nu dV);have iN:=ak (dx ((HB.out.trans (Hb3.out.mono (by omega))).trans (bT.out.mono (by have:=Hb3.out.size;omega))) uI.out.row (Nat.le_refl _) (by omega) nu);rw [<- IX.out] at Dl;clear qX nu dV;go_wp2_with fail;go_roundg (nK t - (k+1))
     case rel=>exact ⟨k+1,_,rfl,by omega,by go_num,iN,Dl,tV⟩
     case measure=>omega
    ·have HA4:=ak (HA2.out hok);exact ⟨rfl,iq.out.trans (b3.mono iq.out.size),.inr ⟨HA4.out,rfl⟩⟩
   ·obtain rfl:k=nK t:=by omega
    have YU:Hid ((lZ t).take (nK t)=lZ t):=by show _=_;rw [List.take_of_length_le (by rw [l8];omega)]
    rw [YU.out] at HL
    have jX:Hid (iy w0 wr (aS w wr) (m+1) u3 t):=by
     obtain ⟨A,c,hv,hr⟩:=Qg (w:=w) HL.out (by omega);rw [l8] at hv;refine ⟨A,c,hv,by omega,fun i hi=>?_⟩;obtain ⟨b,u,h1,h2,h3,h4⟩:=hr i (by rw [l8];exact hi);obtain ⟨u',h5,h6⟩:=HL.out.el i (by rw [l8];exact hi);have h7:=h3 u' h5;subst h7;rw [Y6] at h6;have mv:∀ b,Y1 (w.heap.size+1) u3 wr b->wr.heap[b]?=wr.heap[b]?/\aS w wr b:=fun b hb=>⟨rfl,by have:=hb.1;omega,hb.2.1⟩;exact ⟨b,0,u',h1,h2,h4,h6.move mv (iy.move mv m)⟩
    have abX:=ak (Gx.out.trans HN.out);go_wp2_with fail;go_ret;exact ⟨iq.out,.inl ⟨abX.out,_,rfl,jX.out⟩⟩
 ·have e6:(aj t==6)=false:=by simpa using k6
  have Gx:Hid (bE (m+1) t=false):=by show _=_;rw [bE,e6];rfl
  clear k6;go_in;go_wp2_with fail;refine (fO false _).mono ?_;rintro e w2 ⟨rfl,he⟩;simp only [Bool.false_eq_true,if_false] at he;subst he;exact ⟨rfl,HB1.out,.inr ⟨Gx.out,rfl⟩⟩
theorem Vs {Tb:World->Prop} (hS:cK Tb) (hL:aV Tb) (w0:lG):∀ f,Ng Tb w0 f
 | 0=>fun _ _ _ _ _ h=>h.elim
 | 1=>Qh hS hL w0 0 (fun _ _ _ _ _ h=>h.elim)
 | f+2=>Qh hS hL w0 (f+1) (Vr hL w0 f (Vs hS hL w0 f))
theorem BM (be:Nat) (n:Int) (w:World) (x:Value) (h5:w.cell? ⟨be,0,none⟩=some x) (f5:w.frozen? ⟨be,0,none⟩=false) :
  CallsD Tryz.prog 188 #[.pointer (some ⟨be,0,none⟩)] (.panicking [{ v:=.iface 132 (.int .i64 n),recovered:=false }]) w fun e u' w' =>
   e=.returned (.tuple #[])/\u'=.panicking [{ v:=.iface 132 (.int .i64 n),recovered:=true }]/\w'=w.setCell ⟨be,0,none⟩ (.int .i64 n):=by
 refine callsD_of_wpS Tryz.func188 rfl fun c₀ cs hu=>?_;apply wpS_seq;apply wpS_region;simp [wpOpsS,go_sem,recoverD,hu,Tryz.ntmps188,Exit.thenS];refine wpS_of_wp ?_;have hta:=r9 n;have e:(#[Value.pointer (some { block:=be,off:=0 })]++(Array.replicate 10 undef).setIfInBounds 3 (Value.iface 132 (Value.int IntKind.i64 n)))=#[.pointer (some ⟨be,0,none⟩),undef,undef,undef,.iface 132 (.int .i64 n),undef,undef,undef,undef,undef,undef]:=rfl;rw [e];go_wp2_with fail;simp [bodyPostS,results,Tryz.results188]
theorem J7 (be:Nat) (w:World) :
  CallsD Tryz.prog 188 #[.pointer (some ⟨be,0,none⟩)] .returning w fun e u' w'=>e=.returned (.tuple #[])/\u'=.returning/\w'=w:=by
 refine callsD_of_wpS Tryz.func188 rfl fun c₀ cs hu=>?_;apply wpS_seq;apply wpS_region;simp [wpOpsS,go_sem,recoverD,hu,Tryz.ntmps188,Exit.thenS];refine wpS_of_wp ?_;go_wp2_with fail;cases c₀
 simp_all [bodyPostS,results,Tryz.results188]
def dQ (w:World):World:=w.alloc (.cells #[.int .i64 0] 28)
theorem gG (w:World):(dQ w).cell? ⟨w.heap.size,0,none⟩=some (.int .i64 0)/\(dQ w).frozen? ⟨w.heap.size,0,none⟩=false/\(dQ w).heap.size=w.heap.size+1/\Below w.heap.size w (dQ w) :=
 ⟨by simp [dQ,go_sem],by simp [dQ,go_sem],by simp [dQ],aY _ _⟩
def aaP (Q:Prop) (R:Value->World->Prop) (w:World) (e:Ending) (w':World):Prop :=
 Below w.heap.size w w'/\((∃ v,e=.returned v/\R v w')\/(Q/\e=kL 8))
theorem Vt (g:Nat) (hg:∀ (a:Array Value) (w:World),(callFunc g a).run Tryz.prog w=.ok (.enter g a) w) (Q:Prop) (R:Value->World->Prop) (p:Value) (w:World)
  (h:Calls Tryz.prog g #[p] (dQ w) (aaP Q R (dQ w))) :
  Calls Tryz.prog 148 #[.func (Fn.func g) #[] #[p]] w fun e w'=>Below w.heap.size w w'/\((∃ x w2,e=.returned (.tuple #[x,.int .i64 0])/\R x w2/\nQ (w.heap.size+1) w2 w'/\Below w.heap.size w w2)\/(Q/\e=.returned (.tuple #[.slice none 0 0,.int .i64 8]))):=by
 have Rk:∀ (fn:Fn) (first cap:Array Value) (w:World),(Instr.makeFunc fn first cap).run Tryz.prog w=.ok (.func fn first cap) w:=fun _ _ _ _=>rfl;have H:=ak h;have HF:=ak (gG w);clear h;go_enter_defers Tryz.func148,Tryz.ntmps148;go_wp2_with fail;refine H.out.mono ?_;rintro e w1 ⟨hb,hr⟩;have l0:w.heap.size<(dQ w).heap.size:=by have:=HF.out.2.2.1;omega
 have a5:=(hb.cell (p:=⟨w.heap.size,0,none⟩) l0).trans HF.out.1;have z5:=(hb.frozen (p:=⟨w.heap.size,0,none⟩) l0).trans HF.out.2.1;have HB:=ak (HF.out.2.2.2.trans (hb.mono HF.out.2.2.2.size));clear hb l0 H;rcases hr with ⟨v,rfl,hR⟩ | ⟨hQ,rfl⟩
 ·have HR:=ak hR;clear hR;go_wp2_with fail;refine leaves_cons (f:=188) (args:=#[.pointer (some ⟨w.heap.size,0,none⟩)]) (by simp) (by simp [go_sem]) ?_;refine (J7 w.heap.size _).mono ?_;rintro e u' w'' ⟨rfl,rfl,rfl⟩;simp only [Leaves,settle];refine ⟨_,by simp [results,Tryz.results148,go_sem, *],?_,Or.inl ⟨_,w1,rfl,HR.out,?_,HB.out⟩⟩
  ·exact HB.out.setCell (Nat.le_refl _) _
  ·exact (nQ.refl _ _).set (by omega) _ _
 ·have HQ:=ak hQ;clear hQ;go_wp2_with fail;refine leaves_cons (f:=188) (args:=#[.pointer (some ⟨w.heap.size,0,none⟩)]) (by simp) (by simp [go_sem]) ?_;refine (BM w.heap.size 8 _ _ a5 z5).mono ?_;rintro e u' w'' ⟨rfl,rfl,rfl⟩;simp only [settle];refine ⟨_,by simp [results,Tryz.results148,go_sem, *],?_,Or.inr ⟨HQ.out,rfl⟩⟩;exact HB.out.setCell (Nat.le_refl _) _
def Qi (w0:lG) (t:T) (w:World) (e:Ending) (w':World):Prop :=
 Below w.heap.size w w'/\((bE 16 t=true/\∃ fv,e=.returned (.tuple #[fv,.int .i64 0])/\iy w0 w' (aS w w') 16 fv t)\/(bE 16 t=false/\e=.returned (.tuple #[.slice none 0 0,.int .i64 8])))
theorem GV {Tb:World->Prop} (hS:cK Tb) (hL:aV Tb) (w0:lG) (f:Nat) (v:Value) (t:T) (w:World) (hf:f<=16) (ha:yt w0 f v t) (kj:bM t) (hb0:Below w0.w.heap.size w0.w w) (hT:Tb w) (p:Nat)
  (La Ka:Option Addr) (Lc Kc:Nat) (hv:v=.agg #[.int .i64 (aj t),.int .i64 (av t),.string (ay t),.slice La (nL t) Lc,.slice Ka (nK t) Kc])
  (q0:w.cell? ⟨p,0,none⟩=some (.int .i64 (aj t))) (q1:w.cell? ⟨p,1,none⟩=some (.int .i64 (av t))) (q2:w.cell? ⟨p,2,none⟩=some (.string (ay t))) (q3:w.cell? ⟨p,3,none⟩=some (.slice La (nL t) Lc)) (q4:w.cell? ⟨p,4,none⟩=some (.slice Ka (nK t) Kc)) :
  Calls Tryz.prog 149 #[.pointer (some ⟨p,0,none⟩)] w (aaP (bE 16 t=false) (fun fv w'=>bE 16 t=true/\iy w0 w' (aS w w') 16 fv t) w):=by
 subst hv;have HC:=ak (Vs hS hL w0 f 16 _ t w hf ha hf kj hb0 hT);clear ha kj hb0 hT hS hL hf;go_in;go_wp2_with fail;refine HC.out.mono ?_;rintro e w3 ⟨b3,⟨hok,fv,rfl,hr⟩ | ⟨hok,rfl⟩⟩
 ·have HB3:=ak b3;have HR:=ak hr;have HK:=ak hok;clear b3 hr hok;go_wp2_with fail;go_ret;exact ⟨HB3.out,.inl ⟨_,rfl,HK.out,HR.out⟩⟩
 ·exact ⟨rfl,b3,.inr ⟨hok,rfl⟩⟩
theorem vK {Tb:World->Prop} (hS:cK Tb) (hL:aV Tb) (w0:lG) (f:Nat) (v:Value) (t:T) (w:World) (hf:f<=16) (ha:yt w0 f v t) (kj:bM t) (hb0:Below w0.w.heap.size w0.w w) (hT:Tb w) :
  Calls Tryz.prog 110 #[v] w (Qi w0 t w):=by
 have Rk:∀ (fn:Fn) (first cap:Array Value) (w:World),(Instr.makeFunc fn first cap).run Tryz.prog w=.ok (.func fn first cap) w:=fun _ _ _ _=>rfl;obtain ⟨g1,La,Ka,Lc,Kc,hg1,hv,_,_,_⟩:=ha.open;have HB1:=ak (aY w (vC t La Lc Ka Kc));have HE:=ak (gG (w.alloc (vC t La Lc Ka Kc)));have hbb:Below (w.heap.size+1) (w.alloc (vC t La Lc Ka Kc)) (dQ (w.alloc (vC t La Lc Ka Kc))):=HE.out.2.2.2.mono (by simp);obtain ⟨q0,q1,q2,q3,q4,hz,hbw⟩:=dz hbb;have HI:=ak (GV hS hL w0 f v t (dQ (w.alloc (vC t La Lc Ka Kc))) hf ha kj (hb0.trans (hbw.mono hb0.size)) (hL w hT _ _ hT hbw) w.heap.size La Ka Lc Kc hv q0 q1 q2 q3 q4);have HA:=ak (Vt 149 (fun _ _=>rfl) (bE 16 t=false) _ (.pointer (some ⟨w.heap.size,0,none⟩)) _ HI.out);subst hv;clear ha kj hb0 hT hS hL hf hbb q0 q1 q2 q3 q4 hz hbw HI;go_in;go_wp2_with fail;refine HA.out.mono ?_;rintro e w3 ⟨b3,⟨x,w2,rfl,⟨hok,hr⟩,hab,hb2⟩ | ⟨hok,rfl⟩⟩
 ·have HB3:=ak (HB1.out.trans (b3.mono HB1.out.size));have HK:=ak hok
  have mv:∀ b,aS (dQ (w.alloc (vC t La Lc Ka Kc))) w2 b->w3.heap[b]?=w2.heap[b]?/\aS w w3 b:=fun b hb=>by
   have h1:=HE.out.2.2.1;have h2:=hb.1;have h3:=hab.size;have h4:=hb.2;have h5:(w.alloc (vC t La Lc Ka Kc)).heap.size=w.heap.size+1:=by simp
   exact ⟨hab.block b (by omega),by omega,by omega⟩
  have HR:=ak (iy.move (w0:=w0) mv 16 _ _ hr);clear b3 hr hok hab hb2 mv;go_wp2_with fail;refine bodyPost_ret (v:=.tuple #[x,.int .i64 0]) (by simp [results,Tryz.results110,go_sem, *]) rfl ?_;exact ⟨HB3.out,.inl ⟨HK.out,_,rfl,HR.out⟩⟩
 ·have HB3:=ak (HB1.out.trans (b3.mono HB1.out.size));have HK:=ak hok;clear b3 hok;go_wp2_with fail;refine bodyPost_ret (v:=.tuple #[.slice none 0 0,.int .i64 8]) (by simp [results,Tryz.results110,go_sem, *]) rfl ?_;exact ⟨HB3.out,.inr ⟨HK.out,rfl⟩⟩
end Go.Proofs.YtknakfpciccoaaaGreatDoor
/- Contracts of the library's shelf, laid at this dump: strings.Builder's WriteByte and WriteString, strconv.FormatInt. -/
namespace Go.Proofs
open Go.Shelf
def Tryz.laysWriteByte_ren:Go.Shelf.Ren:=⟨fun | 167=>128 | 240=>125 | 276=>161 | n=>n,fun | 0=>0 | 4=>4 | 5=>5 | 9=>9 | 20=>20 | 37=>63 | 70=>62 | 72=>65 | 75=>116 | 164=>185 | 80=>67 | n=>n,fun | n=>n⟩
theorem Tryz.laysWriteByte:Go.Proofs.Lays.n167 Tryz.prog Tryz.laysWriteByte_ren:={
 mixed:=by kernel_rfl
 f167:=Tryz.func128.trans (congrArg some (by kernel_rfl))
 f240:=Tryz.func125.trans (congrArg some (by kernel_rfl))
 f276:=Tryz.func161.trans (congrArg some (by kernel_rfl))
 t0:=Tryz.underlying0
 a0:=Tryz.isAgg0
 z0:=Tryz.sizeOf0
 v0:=Tryz.zeroValue0
 t4:=Tryz.underlying4
 a4:=Tryz.isAgg4
 z4:=Tryz.sizeOf4
 v4:=Tryz.zeroValue4
 t5:=Tryz.underlying5
 a5:=Tryz.isAgg5
 z5:=Tryz.sizeOf5
 v5:=Tryz.zeroValue5
 t9:=Tryz.underlying9
 a9:=Tryz.isAgg9
 z9:=Tryz.sizeOf9
 v9:=Tryz.zeroValue9
 t20:=Tryz.underlying20
 a20:=Tryz.isAgg20
 z20:=Tryz.sizeOf20
 v20:=Tryz.zeroValue20
 t37:=Tryz.underlying63
 a37:=Tryz.isAgg63
 z37:=Tryz.sizeOf63
 v37:=Tryz.zeroValue63
 t70:=Tryz.underlying62
 a70:=Tryz.isAgg62
 z70:=Tryz.sizeOf62
 v70:=Tryz.zeroValue62
 t72:=Tryz.underlying65
 a72:=Tryz.isAgg65
 z72:=Tryz.sizeOf65
 v72:=Tryz.zeroValue65
 t75:=Tryz.underlying116
 a75:=Tryz.isAgg116
 z75:=Tryz.sizeOf116
 v75:=Tryz.zeroValue116
 t164:=Tryz.underlying185
 a164:=Tryz.isAgg185
 z164:=Tryz.sizeOf185
 v164:=Tryz.zeroValue185 }
theorem Tryz.extraWriteByte:Go.Proofs.Builder.Extra Tryz.prog Tryz.laysWriteByte_ren:={
 sizeBuilder:=by kernel_rfl
 liesBuilder:=by kernel_rfl
 t5:=Tryz.underlying5
 a5:=Tryz.isAgg5
 z5:=Tryz.sizeOf5
 v5:=Tryz.zeroValue5
 infoByte:=by kernel_rfl
 cellsByte:=by kernel_rfl
 sizeByte:=by kernel_rfl
 neB5:=by decide }
def Tryz.laysWriteString_ren:Go.Shelf.Ren:=⟨fun | 166=>74 | 240=>125 | 276=>161 | n=>n,fun | 0=>0 | 3=>3 | 4=>4 | 9=>9 | 20=>20 | 37=>63 | 70=>62 | 72=>65 | 75=>116 | 164=>185 | 80=>67 | n=>n,fun | n=>n⟩
theorem Tryz.laysWriteString:Go.Proofs.Lays.n166 Tryz.prog Tryz.laysWriteString_ren:={
 mixed:=by kernel_rfl
 f166:=Tryz.func74.trans (congrArg some (by kernel_rfl))
 f240:=Tryz.func125.trans (congrArg some (by kernel_rfl))
 f276:=Tryz.func161.trans (congrArg some (by kernel_rfl))
 t0:=Tryz.underlying0
 a0:=Tryz.isAgg0
 z0:=Tryz.sizeOf0
 v0:=Tryz.zeroValue0
 t3:=Tryz.underlying3
 a3:=Tryz.isAgg3
 z3:=Tryz.sizeOf3
 v3:=Tryz.zeroValue3
 t4:=Tryz.underlying4
 a4:=Tryz.isAgg4
 z4:=Tryz.sizeOf4
 v4:=Tryz.zeroValue4
 t9:=Tryz.underlying9
 a9:=Tryz.isAgg9
 z9:=Tryz.sizeOf9
 v9:=Tryz.zeroValue9
 t20:=Tryz.underlying20
 a20:=Tryz.isAgg20
 z20:=Tryz.sizeOf20
 v20:=Tryz.zeroValue20
 t37:=Tryz.underlying63
 a37:=Tryz.isAgg63
 z37:=Tryz.sizeOf63
 v37:=Tryz.zeroValue63
 t70:=Tryz.underlying62
 a70:=Tryz.isAgg62
 z70:=Tryz.sizeOf62
 v70:=Tryz.zeroValue62
 t72:=Tryz.underlying65
 a72:=Tryz.isAgg65
 z72:=Tryz.sizeOf65
 v72:=Tryz.zeroValue65
 t75:=Tryz.underlying116
 a75:=Tryz.isAgg116
 z75:=Tryz.sizeOf116
 v75:=Tryz.zeroValue116
 t164:=Tryz.underlying185
 a164:=Tryz.isAgg185
 z164:=Tryz.sizeOf185
 v164:=Tryz.zeroValue185 }
theorem Tryz.extraWriteString:Go.Proofs.Builder.Extra Tryz.prog Tryz.laysWriteString_ren:={
 sizeBuilder:=by kernel_rfl
 liesBuilder:=by kernel_rfl
 t5:=Tryz.underlying5
 a5:=Tryz.isAgg5
 z5:=Tryz.sizeOf5
 v5:=Tryz.zeroValue5
 infoByte:=by kernel_rfl
 cellsByte:=by kernel_rfl
 sizeByte:=by kernel_rfl
 neB5:=by decide }
def Tryz.laysFormat_ren:Go.Shelf.Ren:=⟨fun | 173=>76 | 246=>127 | 283=>162 | 284=>163 | 285=>164 | 286=>165 | 129=>196 | 317=>195 | 318=>197 | 319=>198 | 320=>199 | 337=>240 | 338=>241 | n=>n,fun | 2=>2 | 3=>3 | 9=>9 | 4=>4 | 171=>187 | 0=>0 | 53=>127 | 37=>63 | 5=>5 | 173=>190 | 212=>215 | 51=>216 | 20=>20 | 213=>217 | 46=>155 | 232=>301 | 233=>302 | n=>n,fun | 17=>2 | 18=>3 | 19=>4 | n=>n⟩
theorem Tryz.laysFormat:Go.Proofs.LaysM.n173 Tryz.prog Tryz.laysFormat_ren:={
 mixed:=by kernel_rfl
 f129:=Tryz.func196.trans (congrArg some (by kernel_rfl))
 f173:=Tryz.func76.trans (congrArg some (by kernel_rfl))
 f246:=Tryz.func127.trans (congrArg some (by kernel_rfl))
 f283:=Tryz.func162.trans (congrArg some (by kernel_rfl))
 f284:=Tryz.func163.trans (congrArg some (by kernel_rfl))
 f285:=Tryz.func164.trans (congrArg some (by kernel_rfl))
 f286:=Tryz.func165.trans (congrArg some (by kernel_rfl))
 f317:=Tryz.func195.trans (congrArg some (by kernel_rfl))
 f318:=Tryz.func197.trans (congrArg some (by kernel_rfl))
 f319:=Tryz.func198.trans (congrArg some (by kernel_rfl))
 f320:=Tryz.func199.trans (congrArg some (by kernel_rfl))
 f337:=Tryz.func240.trans (congrArg some (by kernel_rfl))
 f338:=Tryz.func241.trans (congrArg some (by kernel_rfl))
 t0:=Tryz.underlying0
 a0:=Tryz.isAgg0
 z0:=Tryz.sizeOf0
 v0:=Tryz.zeroValue0
 t2:=Tryz.underlying2
 a2:=Tryz.isAgg2
 z2:=Tryz.sizeOf2
 v2:=Tryz.zeroValue2
 t3:=Tryz.underlying3
 a3:=Tryz.isAgg3
 z3:=Tryz.sizeOf3
 v3:=Tryz.zeroValue3
 t4:=Tryz.underlying4
 a4:=Tryz.isAgg4
 z4:=Tryz.sizeOf4
 v4:=Tryz.zeroValue4
 t5:=Tryz.underlying5
 a5:=Tryz.isAgg5
 z5:=Tryz.sizeOf5
 v5:=Tryz.zeroValue5
 t9:=Tryz.underlying9
 a9:=Tryz.isAgg9
 z9:=Tryz.sizeOf9
 v9:=Tryz.zeroValue9
 t20:=Tryz.underlying20
 a20:=Tryz.isAgg20
 z20:=Tryz.sizeOf20
 v20:=Tryz.zeroValue20
 t37:=Tryz.underlying63
 a37:=Tryz.isAgg63
 z37:=Tryz.sizeOf63
 v37:=Tryz.zeroValue63
 t46:=Tryz.underlying155
 a46:=Tryz.isAgg155
 z46:=Tryz.sizeOf155
 v46:=Tryz.zeroValue155
 t51:=Tryz.underlying216
 a51:=Tryz.isAgg216
 z51:=Tryz.sizeOf216
 v51:=Tryz.zeroValue216
 t53:=Tryz.underlying127
 a53:=Tryz.isAgg127
 z53:=Tryz.sizeOf127
 v53:=Tryz.zeroValue127
 t171:=Tryz.underlying187
 a171:=Tryz.isAgg187
 z171:=Tryz.sizeOf187
 v171:=Tryz.zeroValue187
 t173:=Tryz.underlying190
 a173:=Tryz.isAgg190
 z173:=Tryz.sizeOf190
 v173:=Tryz.zeroValue190
 t212:=Tryz.underlying215
 a212:=Tryz.isAgg215
 z212:=Tryz.sizeOf215
 v212:=Tryz.zeroValue215
 t213:=Tryz.underlying217
 a213:=Tryz.isAgg217
 z213:=Tryz.sizeOf217
 t232:=Tryz.underlying301
 a232:=Tryz.isAgg301
 z232:=Tryz.sizeOf301
 v232:=Tryz.zeroValue301
 t233:=Tryz.underlying302
 a233:=Tryz.isAgg302
 z233:=Tryz.sizeOf302
 v233:=Tryz.zeroValue302
 g17:=by kernel_rfl
 g18:=by kernel_rfl
 g19:=by kernel_rfl
 i0:=by kernel_rfl
 i2:=by kernel_rfl
 i3:=by kernel_rfl
 i4:=by kernel_rfl
 i5:=by kernel_rfl
 i9:=by kernel_rfl
 i20:=by kernel_rfl
 i37:=by kernel_rfl
 i46:=by kernel_rfl
 i51:=by kernel_rfl
 i53:=by kernel_rfl
 i171:=by kernel_rfl
 i173:=by kernel_rfl
 i212:=by kernel_rfl
 i232:=by kernel_rfl
 i233:=by kernel_rfl
 m17:=by kernel_rfl
 m18:=by kernel_rfl
 m19:=by kernel_rfl }
end Go.Proofs
/- Values as texts, pure: what is written; the builder's writers. -/
namespace Go.Proofs.YtknakfpciccoaaaGreatDoor
open Go.RowKit
def zQ (n:Nat):UInt8:=if n<10 then UInt8.ofNat (48+n) else UInt8.ofNat (87+n)
def jP (c:UInt8):List UInt8:=if c.toNat=34\/c.toNat=92 then [92,c] else if c.toNat<32 then [92,117,48,48,zQ (c.toNat / 16),zQ (c.toNat % 16)] else [c]
def iA (s:ByteArray) (k:Nat):List UInt8:=(s.data.toList.take k).flatMap jP
def cO (s:ByteArray):List UInt8:=34::(iA s s.size++[34])
theorem Nj (s:ByteArray):iA s 0=[]:=by simp [iA]
theorem BN {s:ByteArray} {k:Nat} {z:UInt8} (h:s.data[k]?=some z):iA s (k+1)=iA s k++jP z:=by
 have h':s.data.toList[k]?=some z:=by rw [Array.getElem?_toList];exact h
 unfold iA;rw [List.take_add_one,h'];simp
theorem J8 {s:ByteArray} {k:Nat} {z:UInt8} (h:k<s.size) (e:s[k]'h=z):s.data[k]?=some z:=by
 rw [<- e];exact Array.getElem?_eq_getElem h
theorem Vu (c:UInt8):(jP c).length<=6:=by unfold jP;split<;>(try split)<;>simp
theorem EG (s:ByteArray):∀ k,(iA s k).length<=6*k
 | 0=>by simp [iA]
 | k+1=>by
  have ih:=EG s k;cases h:s.data[k]? with
  | none =>
   have h':s.data.toList.length<=k:=by simpa using h
   have:iA s (k+1)=iA s k:=by unfold iA;rw [List.take_of_length_le (by omega),List.take_of_length_le h']
   rw [this];omega
  | some z =>
   rw [BN h,List.length_append];have:=Vu z;omega
theorem J9 (s:ByteArray):(cO s).length<=6*s.size+2:=by
 have:=EG s s.size;simp [cO];omega
def eD (t:T):List UInt8 :=
 if aj t=1 then [110,117,108,108] else if aj t=2 then (if av t=1 then [116,114,117,101] else [102,97,108,115,101]) else if aj t=3 then Lib.itoa (av t) else if aj t=4 then cO (ay t) else []
def dL (g:T->List UInt8) (t:T):Nat->List UInt8
 | 0=>[]
 | k+1=>dL g t k++((if k=0 then [] else [44])++g (elt t k))
def eZ (g:T->List UInt8) (t:T):Nat->List UInt8
 | 0=>[]
 | k+1=>eZ g t k++((if k=0 then [] else [44])++(cO (bO t k)++(58::g (elt t k))))
def bL:Nat->T->List UInt8
 | 0,t=>eD t
 | m+1,t=>if aj t=5 then 91::(dL (bL m) t (nL t)++[93]) else if aj t=6 then 123::(eZ (bL m) t (nK t)++[125]) else eD t
theorem Nk (g : T -> List UInt8) (t : T) {k n : Nat} (h : k <= n) : (dL g t k).length <= (dL g t n).length := by
  induction n with
  | zero => have : k = 0 := by omega
            subst this; exact Nat.le_refl _
  | succ n ih =>
    by_cases e : k = n + 1
    · subst e; exact Nat.le_refl _
    · have := ih (by omega);simp only [dL, List.length_append];omega
theorem Nl (g : T -> List UInt8) (t : T) {k n : Nat} (h : k <= n) : (eZ g t k).length <= (eZ g t n).length := by
  induction n with
  | zero => have : k = 0 := by omega
            subst this; exact Nat.le_refl _
  | succ n ih =>
    by_cases e : k = n + 1
    · subst e; exact Nat.le_refl _
    · have := ih (by omega);simp only [eZ, List.length_append];omega
structure vL (B b:Nat) (acc:List UInt8) (w w':World):Prop where
 Nn:Lib.IsBuilderF 65 5 B b (Lib.byteCells acc) w'
 below:Below B w w'
 oth:Lib.OthersKept 5 (some b) w w'
 lo:B<=w.heap.size
theorem vL.trans {B b:Nat} {acc acc':List UInt8} {w w1 w2:World} (h:vL B b acc w w1) (k:vL B b acc' w1 w2):vL B b acc' w w2 :=
 ⟨k.Nn,h.below.trans k.below,h.oth.trans k.oth,h.lo⟩
theorem vL.lo' {B b:Nat} {acc:List UInt8} {w w1:World} (h:vL B b acc w w1):B<=w1.heap.size:=Nat.le_trans h.lo h.below.size
theorem vL.acc {B b:Nat} {acc acc':List UInt8} {w w1:World} (h:vL B b acc w w1) (e:acc=acc'):vL B b acc' w w1:=e ▸ h
theorem vL.keep {B b:Nat} {acc:List UInt8} {w w1 w2:World} (h:vL B b acc w w1) (k:Below w1.heap.size w1 w2):vL B b acc w w2 :=
 ⟨h.Nn.elim (fun x=>.inl ⟨x.1,by
   obtain ⟨v,hb,hown,hne⟩:=x.2;exact ⟨v,(k.block b (Array.getElem?_eq_some_iff.1 hb).1).trans hb,xY hown (fun i _ h2=>k.block i h2),hne⟩⟩) (fun x=>.inr ⟨x.1,by
   obtain ⟨v,hb,hown,hne⟩:=x.2;exact ⟨v,(k.block b (Array.getElem?_eq_some_iff.1 hb).1).trans hb,xY hown (fun i _ h2=>k.block i h2),hne⟩⟩),
  h.below.trans (k.mono (Nat.le_trans h.lo h.below.size)),
  fun i o hi hb ho=>by
   have h1:=h.oth i o hi hb ho;exact (k.block i (Array.getElem?_eq_some_iff.1 h1).1).trans h1,h.lo⟩
theorem vL.start {B b:Nat} {acc:List UInt8} {w:World} (h:Lib.IsBuilderF 65 5 B b (Lib.byteCells acc) w) (hB:B<=w.heap.size):vL B b acc w w :=
 ⟨h,Below.refl _ _,Lib.OthersKept.refl _ _ _,hB⟩
def EH (B b:Nat) (acc:List UInt8) (w:World) (e:Ending) (w':World):Prop:=e=.returned (.tuple #[])/\vL B b acc w w'
theorem dH (B b:Nat) (acc:List UInt8) (c:UInt8) (w0 w:World) (h:vL B b acc w0 w) (hl:acc.length<=1000000000) :
  Calls Tryz.prog 128 #[.pointer (some ⟨b,0,none⟩),.int .u8 (c.toNat:Int)] w fun e w'=>e=.returned .nilIface/\vL B b (acc++[c]) w w':=by
 refine (Any.Builder_WriteByte_k Tryz.laysWriteByte Tryz.extraWriteByte B b (Lib.byteCells acc) (c.toNat:Int) w h.Nn (by rw [Lib.byteCells_length];omega) h.lo').mono ?_;rintro e w' ⟨rfl,h1,b1,o1⟩;refine ⟨rfl,⟨Or.inr ?_,b1,o1,h.lo'⟩⟩;rw [Lib.byteCells_append];exact h1
theorem sO (B b:Nat) (acc:List UInt8) (s:ByteArray) (w0 w:World) (h:vL B b acc w0 w) (hl:acc.length+s.size<=1000000000) :
  Calls Tryz.prog 74 #[.pointer (some ⟨b,0,none⟩),.string s] w fun e w'=>e=.returned (.tuple #[.int .i64 s.size,.nilIface])/\vL B b (acc++s.data.toList) w w':=by
 refine (Any.Builder_WriteString_k Tryz.laysWriteString Tryz.extraWriteString B b (Lib.byteCells acc) s w h.Nn (by rw [Lib.byteCells_length];omega) h.lo').mono ?_;rintro e w' ⟨rfl,h1,b1,o1⟩;refine ⟨rfl,⟨Or.inr ?_,b1,o1,h.lo'⟩⟩;rw [Lib.byteCells_append];exact h1
theorem Np {c:UInt8} (h:c.toNat=34\/c.toNat=92):jP c=[92,c]:=by unfold jP;rw [if_pos h]
theorem Nq {c:UInt8} (h:¬ (c.toNat=34\/c.toNat=92)) (h':c.toNat<32):jP c=[92,117,48,48,zQ (c.toNat / 16),zQ (c.toNat % 16)]:=by unfold jP;rw [if_neg h,if_pos h']
theorem Vv {c:UInt8} (h:¬ (c.toNat=34\/c.toNat=92)) (h':¬ c.toNat<32):jP c=[c]:=by unfold jP;rw [if_neg h,if_neg h']
def Y7:ByteArray:=⟨#[48,49,50,51,52,53,54,55,56,57,97,98,99,100,101,102]⟩
theorem Vw:∀ n:Fin 16,Y7[n.1]'n.2=zQ n.1:=by decide
theorem Qj {n:Nat} (h:n<16):Y7[n]'h=zQ n:=Vw ⟨n,h⟩
theorem Nr (s:ByteArray) (k:Nat):(iA s k).length<=(iA s s.size).length:=by
 have e:iA s s.size=iA s k++(s.data.toList.drop k).flatMap jP:=by
  unfold iA;have e2:s.data.toList.take s.size=s.data.toList:=List.take_of_length_le (by show s.data.toList.length<=s.data.size;rw [Array.length_toList];exact Nat.le_refl _);rw [e2,<- List.flatMap_append,List.take_append_drop]
 rw [e];simp
theorem vv (B b:Nat) (acc:List UInt8) (s:ByteArray) (w:World) (h:Lib.IsBuilderF 65 5 B b (Lib.byteCells acc) w) (hB:B<=w.heap.size) (hl:acc.length+(cO s).length<=100000000) (hs:s.size<=140737488355328) :
  Calls Tryz.prog 77 #[.pointer (some ⟨b,0,none⟩),.string s] w (EH B b (acc++cO s) w):=by
 have HQ:Hid (∀ k,k<=s.size->(iA s k).length+acc.length+1<=100000000):=ak (fun k hk=>by
  have:=Nr s k;simp [cO] at hl;omega)
 have HE:Hid (acc++cO s=acc++[34]++iA s s.size++[34]):=by show _=_;simp [cO]
 have hl0:acc.length<=100000000:=by omega
 have HS:=ak (vL.start h hB);clear h hl;go_in;go_wp2_with fail;refine (dH B b acc 34 w w HS.out (by omega)).mono ?_;rintro e w1 ⟨rfl,hw1⟩;have H1:=ak hw1;clear hw1;go_wp2_with fail;go_loopg [10] (s.size) (fun g i wr=>∃ k:Nat,g=s.size - k/\k<=s.size/\i=.int .i64 k/\Hid (vL B b (acc++[34]++iA s k) w wr))
 case atStart=>exact ⟨0,rfl,Nat.zero_le _,rfl,H1.out.acc (by simp [Nj])⟩
 case round =>
  obtain ⟨k,rfl,hk,rfl,HW⟩:=hrel;have hq:=HQ.out k hk;have hlk:(acc++[34]++iA s k).length<=100000000:=by simp;omega
  by_cases hlt:k<s.size
  ·obtain ⟨z,hz⟩:∃ z:UInt8,s[k]'hlt=z:=⟨_,rfl⟩;have HZ:=ak (BN (J8 hlt hz));have x1:(k:Int)<(s.size:Int):=by omega
   have lz:z.toNat<256:=z.toNat_lt;have hne:∀ (a:List UInt8),(acc++[34]++iA s k++a).length<=100000000+a.length:=fun a=>by rw [List.length_append];omega
   have HN:=ak hne;clear hne;by_cases hq2:z.toNat=34\/z.toNat=92
   ·have HC:=ak (Np hq2);rcases hq2 with hq2 | hq2
    ·have y1:((z.toNat:Int)==34)=true:=by rw [beq_iff_eq];omega
     clear hq2;go_wp2_with fail;refine (dH B b _ 92 w wr HW.out (by omega)).mono ?_;rintro e w2 ⟨rfl,hw2⟩;have H2:=ak (HW.out.trans hw2);clear hw2;go_wp2_with fail;refine (dH B b _ z w w2 H2.out (by have:=HN.out [92];simp only [List.length_singleton] at this;omega)).mono ?_;rintro e w3 ⟨rfl,hw3⟩;have H3:=ak (H2.out.trans hw3);clear hw3;go_wp2_with fail;go_roundg (s.size - (k+1))
     case rel=>exact ⟨k+1,rfl,by omega,by go_num,H3.out.acc (by rw [HZ.out,HC.out];simp)⟩
     case measure=>omega
    ·have y0:((z.toNat:Int)==34)=false:=by rw [beq_eq_false_iff_ne];omega
     have y1:((z.toNat:Int)==92)=true:=by rw [beq_iff_eq];omega
     clear hq2;go_wp2_with fail;refine (dH B b _ 92 w wr HW.out (by omega)).mono ?_;rintro e w2 ⟨rfl,hw2⟩;have H2:=ak (HW.out.trans hw2);clear hw2;go_wp2_with fail;refine (dH B b _ z w w2 H2.out (by have:=HN.out [92];simp only [List.length_singleton] at this;omega)).mono ?_;rintro e w3 ⟨rfl,hw3⟩;have H3:=ak (H2.out.trans hw3);clear hw3;go_wp2_with fail;go_roundg (s.size - (k+1))
     case rel=>exact ⟨k+1,rfl,by omega,by go_num,H3.out.acc (by rw [HZ.out,HC.out];simp)⟩
     case measure=>omega
   ·have y34:((z.toNat:Int)==34)=false:=by rw [beq_eq_false_iff_ne];omega
    have y92:((z.toNat:Int)==92)=false:=by rw [beq_eq_false_iff_ne];omega
    by_cases hu:z.toNat<32
    ·have HC:=ak (Nq hq2 hu);have y1:decide ((z.toNat:Int)<32)=true:=decide_eq_true (by omega);clear hq2;go_wp2_with fail;refine (sO B b _ ⟨#[92,117,48,48]⟩ w wr HW.out (by show _+4<=_;omega)).mono ?_;rintro e w2 ⟨rfl,hw2⟩;have H2:=ak (HW.out.trans hw2);clear hw2;have n1:z.toNat / 16<16:=by omega
     have n2:z.toNat % 16<16:=by omega
     go_wp2_with fail;refine (dH B b _ (Y7[z.toNat / 16]'n1) w w2 H2.out (by have:=HN.out [92,117,48,48];simp only [List.length_cons,List.length_nil] at this;simp only [List.length_append,List.length_cons,List.length_nil] at this ⊢;omega)).mono ?_;rintro e w3 ⟨rfl,hw3⟩;have H3:=ak (H2.out.trans hw3);clear hw3;go_wp2_with fail;refine (dH B b _ (Y7[z.toNat % 16]'n2) w w3 H3.out (by have:=HN.out [92,117,48,48];simp only [List.length_append,List.length_cons,List.length_nil] at this ⊢;omega)).mono ?_;rintro e w4 ⟨rfl,hw4⟩;have H4:=ak (H3.out.trans hw4);clear hw4;go_wp2_with fail;go_roundg (s.size - (k+1))
     case rel=>exact ⟨k+1,rfl,by omega,by go_num,H4.out.acc (by rw [HZ.out,HC.out,Qj,Qj];simp)⟩
     case measure=>omega
    ·have HC:=ak (Vv hq2 hu);have y1:decide ((z.toNat:Int)<32)=false:=decide_eq_false (by omega);clear hq2;go_wp2_with fail;refine (dH B b _ z w wr HW.out (by omega)).mono ?_;rintro e w2 ⟨rfl,hw2⟩;have H2:=ak (HW.out.trans hw2);clear hw2;go_wp2_with fail;go_roundg (s.size - (k+1))
     case rel=>exact ⟨k+1,rfl,by omega,by go_num,H2.out.acc (by rw [HZ.out,HC.out];simp)⟩
     case measure=>omega
  ·obtain rfl:k=s.size:=by omega
   go_wp2_with fail;refine (dH B b _ 34 w wr HW.out (by omega)).mono ?_;rintro e w2 ⟨rfl,hw2⟩;have H2:=ak hw2;clear hw2;go_wp2_with fail;refine bodyPost_end (v:=.tuple #[]) (by simp [results,Tryz.results77,go_sem]) rfl ?_;exact ⟨rfl,(HW.out.trans H2.out).acc HE.out.symm⟩
def Ke:List UInt8:=[116,114,117,101]
def BO:List UInt8:=[102,97,108,115,101]
def qE (Tb:World->Prop):Prop:=∀ (n:Int) (w:World),-9223372036854775808<=n->n<=9223372036854775807->Tb w->Calls Tryz.prog 76 #[.int .i64 n,.int .i64 10] w fun e w'=>e=.returned (.string (bP (Lib.itoa n)))/\Below w.heap.size w w'
theorem Vx (b:Bool) (w:World):Calls Tryz.prog 126 #[.bool b] w fun e w'=>e=.returned (.string (bP (if b then Ke else BO)))/\w'=w:=by
 go_in;cases b
 ·go_wp2_with fail;go_ret;exact ⟨rfl,rfl⟩
 ·go_wp2_with fail;go_ret;exact ⟨rfl,rfl⟩
theorem EJ (b:Bool) (w:World):Calls Tryz.prog 75 #[.bool b] w fun e w'=>e=.returned (.string (bP (if b then Ke else BO)))/\w'=w:=by
 have HF:=ak (Vx b w);generalize bP (if b=true then Ke else BO)=s at HF ⊢;go_in;go_wp2_with fail;refine HF.out.mono ?_;rintro e w1 ⟨rfl,rfl⟩;go_wp2_with fail;go_ret;exact ⟨rfl,rfl⟩
def BP (Tb:World->Prop) (w0:World) (m:Nat):Prop:=∀ (f:Nat) (v:Value) (t:T) (acc:List UInt8) (b:Nat) (w:World),
 At w0 f v t->dD m t->Below w0.heap.size w0 w->Lib.IsBuilderF 65 5 w0.heap.size b (Lib.byteCells acc) w->Tb w->acc.length+(bL m t).length<=100000000 ->
  Calls Tryz.prog 41 #[.pointer (some ⟨b,0,none⟩),v] w (EH w0.heap.size b (acc++bL m t) w)
theorem pO {m:Nat} {t:T} (h5:aj t≠5) (h6:aj t≠6):bL m t=eD t:=by
 cases m with
 | zero=>rfl
 | succ m=>unfold bL;rw [if_neg h5,if_neg h6]
theorem BQ {Tb:World->Prop} (hF:qE Tb) (w0:World) (hS:dZ Tb w0.heap.size) (t:T) (hg:aW t) (ht:zI t) (acc:List UInt8) (b:Nat) (w:World) (La Ka:Option Addr) (Lc Kc:Nat)
  (hb:Below w0.heap.size w0 w) (h:Lib.IsBuilderF 65 5 w0.heap.size b (Lib.byteCells acc) w) (hT:Tb w) (hl:acc.length+(eD t).length<=100000000) :
  Calls Tryz.prog 41 #[.pointer (some ⟨b,0,none⟩),.agg #[.int .i64 (aj t),.int .i64 (av t),.string (ay t),.slice La (nL t) Lc,.slice Ka (nK t) Kc]] w (EH w0.heap.size b (acc++eD t) w):=by
 have HS:=ak (vL.start h hb.size);have HB1:=ak (aY w (vC t La Lc Ka Kc));have zl:=ak (HS.out.keep HB1.out);have HT1:=ak (hS _ _ hT (HB1.out.mono hb.size));have HF:=ak hF;have HFt:=ak ht;have HST:=ak hS;have Hb:=ak hb;clear h hF ht hT hS hb;obtain ⟨g1,g2,hg⟩:=hg;clear g1 g2;rcases hg with ⟨hk,g3⟩ | ⟨hk,g3⟩ | ⟨hk,g3⟩ | ⟨hk,g3,hsz,g4⟩
 all_goals clear g3
 ·have e1:(aj t==1)=true:=by rw [hk];rfl
  have HW:Hid (eD t=[110,117,108,108]):=by show _=_;unfold eD;rw [if_pos hk]
  rw [HW.out] at hl ⊢;clear hk;go_in;go_wp2_with fail;refine (sO w0.heap.size b acc ⟨#[110,117,108,108]⟩ w _ zl.out (by show _+4<=_;omega)).mono ?_;rintro e w2 ⟨rfl,hw2⟩;have H2:=ak (zl.out.trans hw2);clear hw2;go_wp2_with fail;refine bodyPost_end (v:=.tuple #[]) (by simp [results,Tryz.results41,go_sem]) rfl ?_;exact ⟨rfl,H2.out⟩
 ·have e1:(aj t==1)=false:=by rw [hk];rfl
  have e2:(aj t==2)=true:=by rw [hk];rfl
  by_cases hn:av t=1
  ·have HW:Hid (eD t=Ke):=by show _=_;unfold eD;rw [if_neg (by omega),if_pos hk,if_pos (by omega)];rfl
   have y:(av t==1)=true:=by rw [beq_iff_eq];exact hn
   have HP:=ak (EJ true (w.alloc (vC t La Lc Ka Kc)));rw [HW.out] at hl ⊢;have hl0:acc.length<=100000000:=by omega
   clear hk hn hl;go_in;go_wp2_with fail;refine HP.out.mono ?_;rintro e w2 ⟨rfl,rfl⟩;go_wp2_with fail;refine (sO w0.heap.size b acc (bP Ke) w _ zl.out (by show _+4<=_;omega)).mono ?_;rintro e w2 ⟨rfl,hw2⟩;have H2:=ak (zl.out.trans hw2);clear hw2;go_wp2_with fail;refine bodyPost_end (v:=.tuple #[]) (by simp [results,Tryz.results41,go_sem]) rfl ?_;exact ⟨rfl,H2.out⟩
  ·have HW:Hid (eD t=BO):=by show _=_;unfold eD;rw [if_neg (by omega),if_pos hk,if_neg (by omega)];rfl
   have y:(av t==1)=false:=by rw [beq_eq_false_iff_ne];exact hn
   have HP:=ak (EJ false (w.alloc (vC t La Lc Ka Kc)));rw [HW.out] at hl ⊢;have hl0:acc.length<=100000000:=by omega
   clear hk hn hl;go_in;go_wp2_with fail;refine HP.out.mono ?_;rintro e w2 ⟨rfl,rfl⟩;go_wp2_with fail;refine (sO w0.heap.size b acc (bP BO) w _ zl.out (by show _+5<=_;omega)).mono ?_;rintro e w2 ⟨rfl,hw2⟩;have H2:=ak (zl.out.trans hw2);clear hw2;go_wp2_with fail;refine bodyPost_end (v:=.tuple #[]) (by simp [results,Tryz.results41,go_sem]) rfl ?_;exact ⟨rfl,H2.out⟩
 ·have e1:(aj t==1)=false:=by rw [hk];rfl
  have e2:(aj t==2)=false:=by rw [hk];rfl
  have e3:(aj t==3)=true:=by rw [hk];rfl
  have HW:Hid (eD t=Lib.itoa (av t)):=by show _=_;unfold eD;rw [hk];rfl
  rw [HW.out] at hl ⊢;have hl0:acc.length<=100000000:=by omega
  have HSZ:=ak (fU (Lib.itoa (av t)));have HLI:=ak (bK (Lib.itoa (av t)));clear hk;go_in;go_wp2_with fail;refine (HF.out _ _ HFt.out.n0 HFt.out.n1 HT1.out).mono ?_;rintro e w2 ⟨rfl,hb2⟩;have HS2:=ak (zl.out.keep hb2);clear hb2;generalize bP (Lib.itoa (av t))=s at HSZ HLI ⊢;go_wp2_with fail;refine (sO w0.heap.size b acc s w _ HS2.out (by have:=HSZ.out;omega)).mono ?_;rintro e w3 ⟨rfl,hw3⟩;have H3:=ak (HS2.out.trans hw3);clear hw3;go_wp2_with fail;refine bodyPost_end (v:=.tuple #[]) (by simp [results,Tryz.results41,go_sem]) rfl ?_;exact ⟨rfl,H3.out.acc (by rw [HLI.out])⟩
 ·have e1:(aj t==1)=false:=by rw [hk];rfl
  have e2:(aj t==2)=false:=by rw [hk];rfl
  have e3:(aj t==3)=false:=by rw [hk];rfl
  have e4:(aj t==4)=true:=by rw [hk];rfl
  have HW:Hid (eD t=cO (ay t)):=by show _=_;unfold eD;rw [hk];rfl
  rw [HW.out] at hl ⊢;have HP:=ak (vv w0.heap.size b acc (ay t) _ zl.out.Nn zl.out.lo' hl (by omega));clear hk hl g4 hsz;go_in;go_wp2_with fail;refine HP.out.mono ?_;rintro e w2 ⟨rfl,hw2⟩;have H2:=ak (zl.out.trans hw2);clear hw2 HP;go_wp2_with fail;refine bodyPost_end (v:=.tuple #[]) (by simp [results,Tryz.results41,go_sem]) rfl ?_;exact ⟨rfl,H2.out⟩
end Go.Proofs.YtknakfpciccoaaaGreatDoor
