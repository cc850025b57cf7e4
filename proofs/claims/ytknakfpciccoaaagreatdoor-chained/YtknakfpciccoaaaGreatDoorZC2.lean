import Derived.Test.YtknakfpciccoaaaGreatDoorZC1
/- The walk of areDifferent. -/
set_option maxHeartbeats 1000000
set_option maxRecDepth 100000
namespace Go.Proofs.YtknakfpciccoaaaGreatDoor
open Go.RowKit Go.Maps Go.WideMaps
theorem YF:Keyed Tryz.prog 9:=string_keyed Tryz.underlying9
theorem Q6 (n:Int) (w:World):(Instr.makeMap 203 (some (.int .i64 n))).run Tryz.prog w=.ok (.map (some w.heap.size)) (w.alloc (.map #[] 0)):=by kernel_rfl
theorem uQ (Ka:Option Addr) (Kc:Nat) (t:T) (w:World) (hk:jl w Ka t) (hn:nK t<=8796093022208) :
  Calls Tryz.prog 141 #[.slice Ka (nK t) Kc] w fun e w'=>e=.returned (.bool (!iP t (nK t)))/\Below w.heap.size w w':=by
 have hmm:=Q6 (nK t);have hk':=ak hk;clear hk;have Hs:=ak (YD t);go_in;go_wp2_with fail;go_loopg [11] (nK t) (fun g i wr=>∃ k:Nat,g=nK t - k/\k<=nK t/\i=.int .i64 k/\Hid (wr.ownsMap Tryz.prog 9 (unitElem (H:=Unit)) w.heap.size k (Sn t k))/\Hid (Below w.heap.size w wr))
 case atStart=>exact ⟨0,rfl,Nat.zero_le _,rfl,by rw [YC];exact World.ownsMap_made _ _ _ _,aY _ _⟩
 case round =>
  obtain ⟨k,rfl,hk1,rfl,aei,Hnx⟩:=hrel;by_cases hlt:k<nK t
  ·obtain ⟨kb,ko,rfl,hkb,hks,hkc⟩:=hk'.out.keep Hnx.out k hlt;have hkey:keyOf Tryz.prog 9 (.string (bO t k))=some (rW t k):=keyOf_string_mk Tryz.underlying9 (by unfold maxLen;omega)
   go_wp2_with (first
    | (at_mapUpdate;refine wpList_mapUpdate_own _ rfl _ _ _ 203 rfl 9 204 YF Tryz.underlying203 (unitElem (H:=Unit)) w.heap.size k _ rfl aei.out (by unfold maxLen;omega) _ _ _ rfl rfl hkey _ [] unitElem_mk ?_;intro w1 hown1 hgrow1)
    | fail)
   go_roundg (nK t - (k+1))
   case rel=>exact ⟨k+1,rfl,by omega,by go_num,(YB t k).symm ▸ hown1,Hnx.out.grown hgrow1 Hnx.out.size (fun j hj=>by cases hj;exact Nat.le_refl _)⟩
   case measure=>omega
  ·obtain rfl:k=nK t:=by omega
   have hsz:=(Hs.out (nK t)).1
   go_wp2_with (first
    | (at_len;refine wpList_len_own _ rfl _ 203 rfl 9 204 Tryz.underlying203 (unitElem (H:=Unit)) w.heap.size (nK t) _ rfl aei.out ?_)
    | fail)
   go_ret;refine ⟨aB ?_,Hnx.out⟩;have:=(Hs.out (nK t)).2;cases hd:iP t (nK t) with
   | true =>
    rw [hd] at this;simp;intro e;have:=this.1 (by omega);cases this
   | false =>
    rw [hd] at this;simp [this.2 rfl]
def bF (Tb:World->Prop):Prop:=∀ (s:ByteArray) (w:World),s.size<=9223372036854775807->Tb w ->
 Calls Tryz.prog 160 #[.string s] w fun e w'=>e=.returned (.bool (Ah s))/\Below w.heap.size w w'
def dZ (Tb:World->Prop) (c:Nat):Prop:=∀ w w':World,Tb w->Below c w w'->Tb w'
theorem iL (c:Nat) (l n:Int) (w:World) (h:gM c l w) (l0:0<=l) (l1:l<=1048576) (n0:0<=n) (n1:n<=1000000) :
  Calls Tryz.prog 121 #[.pointer (some ⟨c,0,none⟩),.int .i64 n] w fun e w'=>e=.returned (.bool (decide (n<=l)))/\gM c (l - n) w'/\bq c w w':=by
 refine (Uc c l n w h.cell h.free (by omega) l1 n0 n1).mono ?_;rintro e w' ⟨rfl,rfl⟩;exact ⟨rfl,(h.set _).1,(h.set _).2⟩
theorem Jb {Tb:World->Prop} (hV:bF Tb) (c:Nat) (hS:dZ Tb c) (s:ByteArray) (l:Int) (w:World) (h:gM c l w) (hT:Tb w) (l0:0<=l) (l1:l<=1048576) (hs:s.size<=140737488355328) :
  Calls Tryz.prog 122 #[.pointer (some ⟨c,0,none⟩),.string s] w fun e w'=>iK c w (mF s l) e w':=by
 have H:=ak h;have HT:=ak hT;clear h hT;by_cases h1:s.size<=4000
 ·by_cases h2:(s.size:Int)<=l
  ·go_in;go_wp2_with fail;refine (iL c l s.size w H.out l0 l1 (by omega) (by omega)).mono ?_;rintro e w1 ⟨rfl,K1,B1⟩;have j5:=ak K1;have HB1:=ak B1;clear K1 B1;go_wp2_with fail;refine (hV s w1 (by omega) (hS _ _ HT.out (HB1.out.below (Nat.le_of_lt H.out.lt)))).mono ?_;rintro e w2 ⟨rfl,B2⟩;have HB2:=ak B2;clear B2;cases hv:Ah s with
   | true =>
    have Hv:=ak hv;clear hv;go_wp2_with fail;go_ret;exact ⟨HB1.out.trans (bq.of HB2.out),l - s.size,j5.out.keep HB2.out,Or.inl ⟨by unfold mF;rw [if_pos ⟨h1,h2,Hv.out⟩],by omega,by omega,rfl⟩⟩
   | false =>
    have Hv:=ak hv;clear hv;go_wp2_with fail;go_ret;exact ⟨HB1.out.trans (bq.of HB2.out),l - s.size,j5.out.keep HB2.out,Or.inr ⟨by unfold mF;rw [if_neg (by rw [Hv.out];simp)],rfl⟩⟩
  ·go_in;go_wp2_with fail;refine (iL c l s.size w H.out l0 l1 (by omega) (by omega)).mono ?_;rintro e w1 ⟨rfl,K1,B1⟩;have j5:=ak K1;have HB1:=ak B1;clear K1 B1;have hd:decide ((s.size:Int)<=l)=false:=decide_eq_false (by omega);have H2:=ak h2;clear h2;go_wp2_with fail;go_ret;exact ⟨HB1.out,l - s.size,j5.out,Or.inr ⟨by unfold mF;rw [if_neg (fun h=>by have:=H2.out;omega)],rfl⟩⟩
 ·have H1:=ak h1;have hd:decide ((s.size:Int)<=4000)=false:=decide_eq_false (by omega);clear h1;go_in;go_wp2_with fail;go_ret;exact ⟨bq.refl _ _,l,H.out,Or.inr ⟨by unfold mF;rw [if_neg (fun h=>H1.out h.1)],rfl⟩⟩
theorem Q7 {Tb:World->Prop} (hV:bF Tb) (c:Nat) (hS:dZ Tb c) (w0:World) (hN:w0.heap.size<=c) (Ka:Option Addr) (Kc:Nat) (t:T) (l:Int) (w:World)
  (hk:jl w0 Ka t) (hn:nK t<=8796093022208) (hb0:Below w0.heap.size w0 w) (h:gM c l w) (hT:Tb w) (l0:0<=l) (l1:l<=1048576) :
  Calls Tryz.prog 124 #[.pointer (some ⟨c,0,none⟩),.slice Ka (nK t) Kc] w fun e w'=>iK c w (lI t l) e w':=by
 have H:=ak h;have HT:=ak hT;have Hk:=ak hk;have Hb0:=ak hb0;clear h hT hk hb0;go_in;go_wp2_with fail;go_loopg [9] (nK t) (fun g i wr=>∃ (k:Nat) (x:Int),g=nK t - k/\k<=nK t/\i=.int .i64 k/\0<=x/\x<=1048576/\Hid (jG t k l=some x)/\Hid (gM c x wr)/\Hid (bq c w wr))
 case atStart=>exact ⟨0,l,rfl,Nat.zero_le _,rfl,l0,l1,rfl,H,bq.refl _ _⟩
 case round =>
  obtain ⟨k,x,rfl,hk1,rfl,x0,x1,HX,HH,HB⟩:=hrel;have qb:=ak (Hb0.out.trans ((HB.out.below (Nat.le_of_lt H.out.lt)).mono hN));by_cases hlt:k<nK t
  ·obtain ⟨kb,ko,rfl,hkb,hks,hkc⟩:=Hk.out.keep qb.out k hlt;go_wp2_with fail;refine (iL c x 2 wr HH.out x0 x1 (by omega) (by omega)).mono ?_;rintro e w1 ⟨rfl,K1,B1⟩;have j5:=ak K1;have HB1:=ak B1;clear K1 B1;by_cases h2:2<=x
   ·go_wp2_with fail;refine (Jb hV c hS (bO t k) (x - 2) w1 j5.out (hS _ _ HT.out ((HB.out.trans HB1.out).below (Nat.le_of_lt H.out.lt))) (by omega) (by omega) hks).mono ?_;rintro e w2 ⟨B2,l',K2,hr⟩;have HB2:=ak B2;have PD:=ak K2;clear B2 K2;rcases hr with ⟨hr,y0,y1,rfl⟩ | ⟨hr,rfl⟩
    ·have Hr:=ak hr;clear hr;go_wp2_with fail;go_roundg (nK t - (k+1))
     case rel =>
      refine ⟨k+1,l',rfl,by omega,by go_num,y0,y1,?_,PD,HB.out.trans (HB1.out.trans HB2.out)⟩;show ((jG t k l).bind fun x=>(aZ 2 x).bind (mF (bO t k)))=_;rw [HX.out];simp only [Option.bind_some,aZ,if_pos h2];exact Hr.out
     case measure=>omega
    ·have Hr:=ak hr;clear hr;go_wp2_with fail;go_ret;refine ⟨HB.out.trans (HB1.out.trans HB2.out),l',PD.out,Or.inr ⟨?_,rfl⟩⟩;unfold lI;rw [yT (j:=k+1) hlt]
     ·rfl
     ·show ((jG t k l).bind fun x=>(aZ 2 x).bind (mF (bO t k)))=_;rw [HX.out];simp only [Option.bind_some,aZ,if_pos h2];exact Hr.out
   ·have hd:decide ((2:Int)<=x)=false:=decide_eq_false h2;have H2:=ak h2;clear h2;go_wp2_with fail;go_ret;refine ⟨HB.out.trans HB1.out,x - 2,j5.out,Or.inr ⟨?_,rfl⟩⟩;unfold lI;rw [yT (j:=k+1) hlt]
    ·rfl
    ·show ((jG t k l).bind fun x=>(aZ 2 x).bind (mF (bO t k)))=_;rw [HX.out];simp only [Option.bind_some,aZ];rw [if_neg (by have:=H2.out;omega)];rfl
  ·obtain rfl:k=nK t:=by omega
   go_wp2_with fail;refine (uQ Ka Kc t wr (Hk.out.keep qb.out) hn).mono ?_;rintro e w1 ⟨rfl,B1⟩;have HB1:=ak B1;clear B1;cases hd:iP t (nK t) with
   | true =>
    have Hd:=ak hd;clear hd;go_wp2_with fail;go_ret;refine ⟨HB.out.trans (bq.of HB1.out),x,HH.out.keep HB1.out,Or.inr ⟨?_,rfl⟩⟩;unfold lI;rw [HX.out,Hd.out];rfl
   | false =>
    have Hd:=ak hd;clear hd;go_wp2_with fail;go_ret;refine ⟨HB.out.trans (bq.of HB1.out),x,HH.out.keep HB1.out,Or.inl ⟨?_,x0,x1,rfl⟩⟩;unfold lI;rw [HX.out,Hd.out];rfl
def Ak (Tb:World->Prop) (c:Nat) (w0:World) (m:Nat):Prop:=∀ (f:Nat) (v:Value) (t:T) (l:Int) (w:World),
 At w0 f v t->Below w0.heap.size w0 w->gM c l w->Tb w->0<=l->l<=1048576 ->
  Calls Tryz.prog 73 #[.pointer (some ⟨c,0,none⟩),v,.int .i64 (12 - (m:Int))] w fun e w'=>iK c w (aP m t l) e w'
theorem AU {Tb:World->Prop} (c:Nat) (hS:dZ Tb c) (w0:World) (hN:w0.heap.size<=c) (m:Nat) (ih:Ak Tb c w0 m) (f:Nat) (La:Option Addr) (Lc:Nat) (t:T) (l:Int) (w:World)
  (hl:bJ w0 f La t) (hn:nL t<=1759218604442) (hb0:Below w0.heap.size w0 w) (h:gM c l w) (hT:Tb w) (l0:0<=l) (l1:l<=1048576) :
  Calls Tryz.prog 123 #[.pointer (some ⟨c,0,none⟩),.slice La (nL t) Lc,.int .i64 (12 - (m:Int))] w fun e w'=>iK c w (dN (aP m) t (nL t) l) e w':=by
 have H:=ak h;have HT:=ak hT;have Hl:=ak hl;have Hb0:=ak hb0;have MF:=ak ih;clear h hT hl hb0 ih;go_in;go_wp2_with fail;go_loopg [11] (nL t) (fun g i wr=>∃ (k:Nat) (x:Int),g=nL t - k/\k<=nL t/\i=.int .i64 k/\0<=x/\x<=1048576/\Hid (dN (aP m) t k l=some x)/\Hid (gM c x wr)/\Hid (bq c w wr))
 case atStart=>exact ⟨0,l,rfl,Nat.zero_le _,rfl,l0,l1,rfl,H,bq.refl _ _⟩
 case round =>
  obtain ⟨k,x,rfl,hk1,rfl,x0,x1,HX,HH,HB⟩:=hrel;have qb:=ak (Hb0.out.trans ((HB.out.below (Nat.le_of_lt H.out.lt)).mono hN));by_cases hlt:k<nL t
  ·obtain ⟨b,o,A,B,C,D,rfl,hbl,p0,p1,p2,p3,p4,Ha⟩:=Hl.out.shape qb.out k hlt;go_wp2_with fail;have B1:Below wr.heap.size wr (wr.alloc (vC (elt t k) A B C D)):=aY _ _;have HB1:=ak B1;clear B1;refine (MF.out f _ (elt t k) x _ Ha.out (qb.out.trans (HB1.out.mono (Nat.le_trans hN (Nat.le_of_lt HH.out.lt)))) (HH.out.keep HB1.out) (hS _ _ (hS _ _ HT.out (HB.out.below (Nat.le_of_lt H.out.lt))) (HB1.out.mono (Nat.le_of_lt HH.out.lt))) x0 x1).mono ?_;rintro e w2 ⟨B2,l',K2,hr⟩;have HB2:=ak ((bq.of HB1.out).trans B2);have PD:=ak K2;clear B2 K2
   have step:dN (aP m) t (k+1) l=aP m (elt t k) x:=by
    show (dN (aP m) t k l).bind (aP m (elt t k))=_;rw [HX.out];rfl
   have Hst:=ak step;clear step;rcases hr with ⟨hr,y0,y1,rfl⟩ | ⟨hr,rfl⟩
   ·have Hr:=ak hr;clear hr;go_wp2_with fail;go_roundg (nL t - (k+1))
    case rel=>exact ⟨k+1,l',rfl,by omega,by go_num,y0,y1,Hst.out.trans Hr.out,PD,HB.out.trans HB2.out⟩
    case measure=>omega
   ·have Hr:=ak hr;clear hr;go_wp2_with fail;go_ret;exact ⟨HB.out.trans HB2.out,l',PD.out,Or.inr ⟨F7 hlt (Hst.out.trans Hr.out),rfl⟩⟩
  ·obtain rfl:k=nL t:=by omega
   go_wp2_with fail;go_ret;exact ⟨HB.out,x,HH.out,Or.inl ⟨HX.out,x0,x1,rfl⟩⟩
theorem Uh {Tb:World->Prop} (c:Nat) (hS:dZ Tb c) (w0:World) (hN:w0.heap.size<=c) (m:Nat)  (f:Nat) (v:Value) (t:T) (l:Int) (w:World)
  (h:At w0 f v t) (hb0:Below w0.heap.size w0 w) (hH:gM c l w) (hT:Tb w) (l0:0<=l) (l1:l<=1048576) (hk0:aj t=1) :
  Calls Tryz.prog 73 #[.pointer (some ⟨c,0,none⟩),v,.int .i64 (12 - (m:Int))] w fun e w'=>iK c w (aP m t l) e w':=by
 obtain ⟨f,La,Ka,Lc,Kc,rfl,rfl,hf,hl,hk⟩:=h.open;have HB1:=ak (aY w (vC t La Lc Ka Kc));have j5:=ak (hH.keep HB1.out);have HT1:=ak (hS _ _ hT (HB1.out.mono (Nat.le_of_lt hH.lt)));have Hb1:=ak (hb0.trans (HB1.out.mono (Nat.le_trans hN (Nat.le_of_lt hH.lt))));have HA:=ak (h.keep Hb1.out);clear h hb0 hH hT hf hl hk
 have gU:Hid (aP m t l=if av t=0/\bn t=true/\fF t=true then aZ 1 l else none):=by
  show aP m t l=_;cases m<;>simp [aP,o8,hk0]
 have g1:(aj t==1)=true:=by rw [hk0];rfl
 clear hk0;by_cases n0:av t=0
 ·have en:(av t==0)=true:=by rw [n0];rfl
  by_cases s0:bn t=true
  ·have es:(ay t).toList.isEmpty=true:=s0;have N0:=ak n0;have S0:=ak s0;clear n0 s0;go_in;go_wp2_with fail;refine (jH _ _ _ _ HA.out).mono ?_;rintro e w2 ⟨rfl,B2⟩;have HB2:=ak B2;clear B2;cases hn:fF t with
   | false =>
    have HR:Hid (aP m t l=none):=by show aP m t l=none;rw [gU.out,if_neg (by rw [hn];simp)]
    clear hn;go_wp2_with fail;go_ret;exact ⟨(bq.of HB1.out).trans (bq.of HB2.out),l,j5.out.keep HB2.out,Or.inr ⟨HR.out,rfl⟩⟩
   | true =>
    have HR:Hid (aP m t l=aZ 1 l):=by show aP m t l=_;rw [gU.out,if_pos (⟨N0.out,S0.out,hn⟩)]
    clear hn;go_wp2_with fail;refine (iL c l 1 w2 (j5.out.keep HB2.out) l0 l1 (by omega) (by omega)).mono ?_;rintro e w3 ⟨rfl,K3,B3⟩;have Dh:=ak K3;have HB3:=ak B3;clear K3 B3;by_cases h9:1<=l
    ·have HR2:Hid (aZ 1 l=some (l - 1)):=by show aZ 1 l=_;unfold aZ;rw [if_pos h9]
     go_wp2_with fail;go_ret;exact ⟨((bq.of HB1.out).trans (bq.of HB2.out)).trans HB3.out,l - 1,Dh.out,Or.inl ⟨HR.out.trans HR2.out,by omega,by omega,rfl⟩⟩
    ·have HR2:Hid (aZ 1 l=none):=by show aZ 1 l=_;unfold aZ;rw [if_neg h9]
     have hd:decide ((1:Int)<=l)=false:=decide_eq_false h9;clear h9;go_wp2_with fail;go_ret;exact ⟨((bq.of HB1.out).trans (bq.of HB2.out)).trans HB3.out,l - 1,Dh.out,Or.inr ⟨HR.out.trans HR2.out,rfl⟩⟩
  ·have es:(ay t).toList.isEmpty=false:=by simpa [bn] using s0
   have HR:Hid (aP m t l=none):=by show aP m t l=none;rw [gU.out,if_neg (by exact fun h=>s0 h.2.1)]
   clear n0 s0;go_in;go_wp2_with fail;go_ret;exact ⟨bq.of HB1.out,l,j5.out,Or.inr ⟨HR.out,rfl⟩⟩
 ·have en:(av t==0)=false:=by simpa using n0
  have HR:Hid (aP m t l=none):=by show aP m t l=none;rw [gU.out,if_neg (by exact fun h=>n0 h.1)]
  clear n0;go_in;go_wp2_with fail;go_ret;exact ⟨bq.of HB1.out,l,j5.out,Or.inr ⟨HR.out,rfl⟩⟩
theorem Ui {Tb:World->Prop} (c:Nat) (hS:dZ Tb c) (w0:World) (hN:w0.heap.size<=c) (m:Nat)  (f:Nat) (v:Value) (t:T) (l:Int) (w:World)
  (h:At w0 f v t) (hb0:Below w0.heap.size w0 w) (hH:gM c l w) (hT:Tb w) (l0:0<=l) (l1:l<=1048576) (hk0:aj t=2) :
  Calls Tryz.prog 73 #[.pointer (some ⟨c,0,none⟩),v,.int .i64 (12 - (m:Int))] w fun e w'=>iK c w (aP m t l) e w':=by
 obtain ⟨f,La,Ka,Lc,Kc,rfl,rfl,hf,hl,hk⟩:=h.open;have HB1:=ak (aY w (vC t La Lc Ka Kc));have j5:=ak (hH.keep HB1.out);have HT1:=ak (hS _ _ hT (HB1.out.mono (Nat.le_of_lt hH.lt)));have Hb1:=ak (hb0.trans (HB1.out.mono (Nat.le_trans hN (Nat.le_of_lt hH.lt))));have HA:=ak (h.keep Hb1.out);clear h hb0 hH hT hf hl hk
 have gU:Hid (aP m t l=if (av t=0\/av t=1)/\bn t=true/\fF t=true then aZ 2 l else none):=by
  show aP m t l=_;cases m<;>simp [aP,o8,hk0]
 have g1:(aj t==1)=false:=by first | (rw [hk0];rfl) | (simp;omega)
 have g2:(aj t==2)=true:=by rw [hk0];rfl
 clear hk0;by_cases n0:av t=0\/av t=1
 ·have en:(av t==0)=true\/(av t==0)=false/\(av t==1)=true:=by rcases n0 with h | h<;>simp [h]
  by_cases s0:bn t=true
  ·have es:(ay t).toList.isEmpty=true:=s0;have N0:=ak n0;have S0:=ak s0;clear n0 s0;rcases en with en | ⟨en,en1⟩
   all_goals
    go_in;go_wp2_with fail;refine (jH _ _ _ _ HA.out).mono ?_;rintro e w2 ⟨rfl,B2⟩;have HB2:=ak B2;clear B2;cases hn:fF t with
    | false =>
     have HR:Hid (aP m t l=none):=by show aP m t l=none;rw [gU.out,if_neg (by rw [hn];simp)]
     clear hn;go_wp2_with fail;go_ret;exact ⟨(bq.of HB1.out).trans (bq.of HB2.out),l,j5.out.keep HB2.out,Or.inr ⟨HR.out,rfl⟩⟩
    | true =>
     have HR:Hid (aP m t l=aZ 2 l):=by show aP m t l=_;rw [gU.out,if_pos (⟨N0.out,S0.out,hn⟩)]
     clear hn;go_wp2_with fail;refine (iL c l 2 w2 (j5.out.keep HB2.out) l0 l1 (by omega) (by omega)).mono ?_;rintro e w3 ⟨rfl,K3,B3⟩;have Dh:=ak K3;have HB3:=ak B3;clear K3 B3;by_cases h9:2<=l
     ·have HR2:Hid (aZ 2 l=some (l - 2)):=by show aZ 2 l=_;unfold aZ;rw [if_pos h9]
      go_wp2_with fail;go_ret;exact ⟨((bq.of HB1.out).trans (bq.of HB2.out)).trans HB3.out,l - 2,Dh.out,Or.inl ⟨HR.out.trans HR2.out,by omega,by omega,rfl⟩⟩
     ·have HR2:Hid (aZ 2 l=none):=by show aZ 2 l=_;unfold aZ;rw [if_neg h9]
      have hd:decide ((2:Int)<=l)=false:=decide_eq_false h9;clear h9;go_wp2_with fail;go_ret;exact ⟨((bq.of HB1.out).trans (bq.of HB2.out)).trans HB3.out,l - 2,Dh.out,Or.inr ⟨HR.out.trans HR2.out,rfl⟩⟩
  ·have es:(ay t).toList.isEmpty=false:=by simpa [bn] using s0
   have HR:Hid (aP m t l=none):=by show aP m t l=none;rw [gU.out,if_neg (by exact fun h=>s0 h.2.1)]
   clear n0 s0;rcases en with en | ⟨en,en1⟩
   all_goals
    go_in;go_wp2_with fail;go_ret;exact ⟨bq.of HB1.out,l,j5.out,Or.inr ⟨HR.out,rfl⟩⟩
 ·have en:(av t==0)=false:=by simp;omega
  have en1:(av t==1)=false:=by simp;omega
  have HR:Hid (aP m t l=none):=by show aP m t l=none;rw [gU.out,if_neg (by exact fun h=>n0 h.1)]
  clear n0;go_in;go_wp2_with fail;go_ret;exact ⟨bq.of HB1.out,l,j5.out,Or.inr ⟨HR.out,rfl⟩⟩
theorem Uj {Tb:World->Prop} (c:Nat) (hS:dZ Tb c) (w0:World) (hN:w0.heap.size<=c) (m:Nat)  (f:Nat) (v:Value) (t:T) (l:Int) (w:World)
  (h:At w0 f v t) (hb0:Below w0.heap.size w0 w) (hH:gM c l w) (hT:Tb w) (l0:0<=l) (l1:l<=1048576) (hk0:aj t=3) :
  Calls Tryz.prog 73 #[.pointer (some ⟨c,0,none⟩),v,.int .i64 (12 - (m:Int))] w fun e w'=>iK c w (aP m t l) e w':=by
 obtain ⟨f,La,Ka,Lc,Kc,rfl,rfl,hf,hl,hk⟩:=h.open;have HB1:=ak (aY w (vC t La Lc Ka Kc));have j5:=ak (hH.keep HB1.out);have HT1:=ak (hS _ _ hT (HB1.out.mono (Nat.le_of_lt hH.lt)));have Hb1:=ak (hb0.trans (HB1.out.mono (Nat.le_trans hN (Nat.le_of_lt hH.lt))));have HA:=ak (h.keep Hb1.out);clear h hb0 hH hT hf hl hk
 have gU:Hid (aP m t l=if bn t=true/\fF t=true then aZ 9 l else none):=by
  show aP m t l=_;cases m<;>simp [aP,o8,hk0]
 have g1:(aj t==1)=false:=by first | (rw [hk0];rfl) | (simp;omega)
 have g2:(aj t==2)=false:=by first | (rw [hk0];rfl) | (simp;omega)
 have g3:(aj t==3)=true:=by rw [hk0];rfl
 clear hk0;by_cases s0:bn t=true
 ·have es:(ay t).toList.isEmpty=true:=s0;have S0:=ak s0;clear s0;go_in;go_wp2_with fail;refine (jH _ _ _ _ HA.out).mono ?_;rintro e w2 ⟨rfl,B2⟩;have HB2:=ak B2;clear B2;cases hn:fF t with
  | false =>
   have HR:Hid (aP m t l=none):=by show aP m t l=none;rw [gU.out,if_neg (by rw [hn];simp)]
   clear hn;go_wp2_with fail;go_ret;exact ⟨(bq.of HB1.out).trans (bq.of HB2.out),l,j5.out.keep HB2.out,Or.inr ⟨HR.out,rfl⟩⟩
  | true =>
   have HR:Hid (aP m t l=aZ 9 l):=by show aP m t l=_;rw [gU.out,if_pos (⟨S0.out,hn⟩)]
   clear hn;go_wp2_with fail;refine (iL c l 9 w2 (j5.out.keep HB2.out) l0 l1 (by omega) (by omega)).mono ?_;rintro e w3 ⟨rfl,K3,B3⟩;have Dh:=ak K3;have HB3:=ak B3;clear K3 B3;by_cases h9:9<=l
   ·have HR2:Hid (aZ 9 l=some (l - 9)):=by show aZ 9 l=_;unfold aZ;rw [if_pos h9]
    go_wp2_with fail;go_ret;exact ⟨((bq.of HB1.out).trans (bq.of HB2.out)).trans HB3.out,l - 9,Dh.out,Or.inl ⟨HR.out.trans HR2.out,by omega,by omega,rfl⟩⟩
   ·have HR2:Hid (aZ 9 l=none):=by show aZ 9 l=_;unfold aZ;rw [if_neg h9]
    have hd:decide ((9:Int)<=l)=false:=decide_eq_false h9;clear h9;go_wp2_with fail;go_ret;exact ⟨((bq.of HB1.out).trans (bq.of HB2.out)).trans HB3.out,l - 9,Dh.out,Or.inr ⟨HR.out.trans HR2.out,rfl⟩⟩
 ·have es:(ay t).toList.isEmpty=false:=by simpa [bn] using s0
  have HR:Hid (aP m t l=none):=by show aP m t l=none;rw [gU.out,if_neg (by exact fun h=>s0 h.1)]
  clear s0;go_in;go_wp2_with fail;go_ret;exact ⟨bq.of HB1.out,l,j5.out,Or.inr ⟨HR.out,rfl⟩⟩
theorem D7 {Tb:World->Prop} (c:Nat) (hS:dZ Tb c) (w0:World) (hN:w0.heap.size<=c) (m:Nat)  (f:Nat) (v:Value) (t:T) (l:Int) (w:World)
  (h:At w0 f v t) (hb0:Below w0.heap.size w0 w) (hH:gM c l w) (hT:Tb w) (_l0:0<=l) (_l1:l<=1048576) (hk0:aj t≠1/\aj t≠2/\aj t≠3/\aj t≠4/\aj t≠5/\aj t≠6) :
  Calls Tryz.prog 73 #[.pointer (some ⟨c,0,none⟩),v,.int .i64 (12 - (m:Int))] w fun e w'=>iK c w (aP m t l) e w':=by
 obtain ⟨f,La,Ka,Lc,Kc,rfl,rfl,hf,hl,hk⟩:=h.open;have HB1:=ak (aY w (vC t La Lc Ka Kc));have j5:=ak (hH.keep HB1.out);have HT1:=ak (hS _ _ hT (HB1.out.mono (Nat.le_of_lt hH.lt)));have Hb1:=ak (hb0.trans (HB1.out.mono (Nat.le_trans hN (Nat.le_of_lt hH.lt))));have HA:=ak (h.keep Hb1.out);clear h hb0 hH hT hf hl hk;obtain ⟨h1,h2,h3,h4,h5,h6⟩:=hk0
 have HR:Hid (aP m t l=none):=by
  show aP m t l=_;cases m<;>simp [aP,o8,h1,h2,h3,h4,h5,h6]
 have g1:(aj t==1)=false:=by simp;omega
 have g2:(aj t==2)=false:=by simp;omega
 have g3:(aj t==3)=false:=by simp;omega
 have g4:(aj t==4)=false:=by simp;omega
 have g5:(aj t==5)=false:=by simp;omega
 have g6:(aj t==6)=false:=by simp;omega
 clear h1 h2 h3 h4 h5 h6;go_in;go_wp2_with fail;go_ret;exact ⟨bq.of HB1.out,l,j5.out,Or.inr ⟨HR.out,rfl⟩⟩
theorem Uk {Tb:World->Prop} (hV:bF Tb) (c:Nat) (hS:dZ Tb c) (w0:World) (hN:w0.heap.size<=c) (m:Nat)  (f:Nat) (v:Value) (t:T) (l:Int) (w:World)
  (h:At w0 f v t) (hb0:Below w0.heap.size w0 w) (hH:gM c l w) (hT:Tb w) (l0:0<=l) (l1:l<=1048576) (hk0:aj t=4) :
  Calls Tryz.prog 73 #[.pointer (some ⟨c,0,none⟩),v,.int .i64 (12 - (m:Int))] w fun e w'=>iK c w (aP m t l) e w':=by
 obtain ⟨f,La,Ka,Lc,Kc,rfl,rfl,hf,hl,hk⟩:=h.open;have hlen:=hf.l1;have Dq:=hf.m1;have MG:=hf.s1;have hcw:=hH.lt;have HB1:=ak (aY w (vC t La Lc Ka Kc));have j5:=ak (hH.keep HB1.out);have HT0:=ak hT;have Hb0:=ak hb0;have HA:=ak (h.keep (hb0.trans (HB1.out.mono (Nat.le_trans hN (Nat.le_of_lt hH.lt)))));clear h hb0 hH hT hf
 have gU:Hid (aP m t l=if av t=0/\fF t=true then (aZ 5 l).bind (mF (ay t)) else none):=by
  show aP m t l=_;cases m<;>simp [aP,o8,hk0]
 have g1:(aj t==1)=false:=by first | (rw [hk0];rfl) | (simp;omega)
 have g2:(aj t==2)=false:=by first | (rw [hk0];rfl) | (simp;omega)
 have g3:(aj t==3)=false:=by first | (rw [hk0];rfl) | (simp;omega)
 have g4:(aj t==4)=true:=by rw [hk0];rfl
 clear hk0 hlen Dq hl hk;by_cases n0:av t=0
 ·have en:(av t==0)=true:=by rw [n0];rfl
  have N0:=ak n0;clear n0;go_in;go_wp2_with fail;refine (jH _ _ _ _ HA.out).mono ?_;rintro e w2 ⟨rfl,B2⟩;have HB2:=ak B2;clear B2;cases hn:fF t with
  | false =>
   have HR:Hid (aP m t l=none):=by show aP m t l=none;rw [gU.out,if_neg (by rw [hn];simp)]
   clear hn;go_wp2_with fail;go_ret;exact ⟨(bq.of HB1.out).trans (bq.of HB2.out),l,j5.out.keep HB2.out,Or.inr ⟨HR.out,rfl⟩⟩
  | true =>
   have HR:Hid (aP m t l=(aZ 5 l).bind (mF (ay t))):=by show aP m t l=_;rw [gU.out,if_pos ⟨N0.out,hn⟩]
   clear hn;go_wp2_with fail;refine (iL c l 5 w2 (j5.out.keep HB2.out) l0 l1 (by omega) (by omega)).mono ?_;rintro e w3 ⟨rfl,K3,B3⟩;have Dh:=ak K3;have HB3:=ak ((bq.of HB2.out).trans B3);clear K3 B3;by_cases h9:5<=l
   ·have HR2:Hid (aZ 5 l=some (l - 5)):=by show aZ 5 l=_;unfold aZ;rw [if_pos h9]
    obtain ⟨q0,q1,q2,q3,q4,hz⟩:=Ai hcw HB3.out;have bT:=ak ((bq.of HB1.out).trans HB3.out);go_wp2_with fail;refine (Jb hV c hS (ay t) (l - 5) w3 Dh.out (hS _ _ HT0.out (bT.out.below (Nat.le_of_lt hcw))) (by omega) (by omega) MG).mono ?_;rintro e w4 ⟨B4,l',K4,hr⟩;have eF:=ak (bT.out.trans B4);have HK4:=ak K4;clear B4 K4;have HRR:Hid (aP m t l=mF (ay t) (l - 5)):=by show aP m t l=_;rw [HR.out,HR2.out];rfl
    rcases hr with ⟨hr,y0,y1,rfl⟩ | ⟨hr,rfl⟩
    ·have Hr:=ak hr;clear hr;go_wp2_with fail;go_ret;exact ⟨eF.out,l',HK4.out,Or.inl ⟨HRR.out.trans Hr.out,y0,y1,rfl⟩⟩
    ·have Hr:=ak hr;clear hr;go_wp2_with fail;go_ret;exact ⟨eF.out,l',HK4.out,Or.inr ⟨HRR.out.trans Hr.out,rfl⟩⟩
   ·have HR2:Hid (aZ 5 l=none):=by show aZ 5 l=_;unfold aZ;rw [if_neg h9]
    have hd:decide ((5:Int)<=l)=false:=decide_eq_false h9;clear h9;go_wp2_with fail;go_ret;exact ⟨(bq.of HB1.out).trans HB3.out,l - 5,Dh.out,Or.inr ⟨by rw [HR.out,HR2.out];rfl,rfl⟩⟩
 ·have en:(av t==0)=false:=by simpa using n0
  have HR:Hid (aP m t l=none):=by show aP m t l=none;rw [gU.out,if_neg (fun h=>n0 h.1)]
  clear n0;go_in;go_wp2_with fail;go_ret;exact ⟨bq.of HB1.out,l,j5.out,Or.inr ⟨HR.out,rfl⟩⟩
theorem abo {Tb:World->Prop} (c:Nat) (w0:World) (hN:w0.heap.size<=c)   (f:Nat) (v:Value) (t:T) (l:Int) (w:World)
  (h:At w0 f v t) (hb0:Below w0.heap.size w0 w) (hH:gM c l w) (hT:Tb w) (_l0:0<=l) (_l1:l<=1048576) (hk0:aj t=5) :
  Calls Tryz.prog 73 #[.pointer (some ⟨c,0,none⟩),v,.int .i64 (12 - ((0:Nat):Int))] w fun e w'=>iK c w (aP 0 t l) e w':=by
 obtain ⟨f,La,Ka,Lc,Kc,rfl,rfl,hf,hl,hk⟩:=h.open;have hlen:=hf.l1;have Dq:=hf.m1;have MG:=hf.s1;have hcw:=hH.lt;have HB1:=ak (aY w (vC t La Lc Ka Kc));have j5:=ak (hH.keep HB1.out);have HT0:=ak hT;have Hb0:=ak hb0;have HA:=ak (h.keep (hb0.trans (HB1.out.mono (Nat.le_trans hN (Nat.le_of_lt hH.lt)))));clear h hb0 hH hT hf
 have HR:Hid (aP 0 t l=none):=by
  show aP 0 t l=_;simp [aP,o8,hk0]
 have g1:(aj t==1)=false:=by first | (rw [hk0];rfl) | (simp;omega)
 have g2:(aj t==2)=false:=by first | (rw [hk0];rfl) | (simp;omega)
 have g3:(aj t==3)=false:=by first | (rw [hk0];rfl) | (simp;omega)
 have g4:(aj t==4)=false:=by first | (rw [hk0];rfl) | (simp;omega)
 have g5:(aj t==5)=true:=by rw [hk0];rfl
 clear hk0 HA hlen Dq MG hcw hl hk HT0 Hb0;by_cases n0:av t=0
 ·have en:(av t==0)=true:=by rw [n0];rfl
  clear n0;by_cases s0:bn t=true
  ·have es:(ay t).toList.isEmpty=true:=s0;clear s0;by_cases k0:nK t=0
   ·have ek:((nK t:Int)==0)=true:=by simp [k0]
    clear k0;go_in;go_wp2_with fail;go_ret;exact ⟨bq.of HB1.out,l,j5.out,Or.inr ⟨HR.out,rfl⟩⟩
   ·have ek:((nK t:Int)==0)=false:=by simp;omega
    clear k0;go_in;go_wp2_with fail;go_ret;exact ⟨bq.of HB1.out,l,j5.out,Or.inr ⟨HR.out,rfl⟩⟩
  ·have es:(ay t).toList.isEmpty=false:=by simpa [bn] using s0
   clear s0;go_in;go_wp2_with fail;go_ret;exact ⟨bq.of HB1.out,l,j5.out,Or.inr ⟨HR.out,rfl⟩⟩
 ·have en:(av t==0)=false:=by simpa using n0
  clear n0;go_in;go_wp2_with fail;go_ret;exact ⟨bq.of HB1.out,l,j5.out,Or.inr ⟨HR.out,rfl⟩⟩
theorem abp {Tb:World->Prop} (c:Nat) (w0:World) (hN:w0.heap.size<=c)   (f:Nat) (v:Value) (t:T) (l:Int) (w:World)
  (h:At w0 f v t) (hb0:Below w0.heap.size w0 w) (hH:gM c l w) (hT:Tb w) (_l0:0<=l) (_l1:l<=1048576) (hk0:aj t=6) :
  Calls Tryz.prog 73 #[.pointer (some ⟨c,0,none⟩),v,.int .i64 (12 - ((0:Nat):Int))] w fun e w'=>iK c w (aP 0 t l) e w':=by
 obtain ⟨f,La,Ka,Lc,Kc,rfl,rfl,hf,hl,hk⟩:=h.open;have hlen:=hf.l1;have Dq:=hf.m1;have MG:=hf.s1;have hcw:=hH.lt;have HB1:=ak (aY w (vC t La Lc Ka Kc));have j5:=ak (hH.keep HB1.out);have HT0:=ak hT;have Hb0:=ak hb0;have HA:=ak (h.keep (hb0.trans (HB1.out.mono (Nat.le_trans hN (Nat.le_of_lt hH.lt)))));clear h hb0 hH hT hf
 have HR:Hid (aP 0 t l=none):=by
  show aP 0 t l=_;simp [aP,o8,hk0]
 have g1:(aj t==1)=false:=by first | (rw [hk0];rfl) | (simp;omega)
 have g2:(aj t==2)=false:=by first | (rw [hk0];rfl) | (simp;omega)
 have g3:(aj t==3)=false:=by first | (rw [hk0];rfl) | (simp;omega)
 have g4:(aj t==4)=false:=by first | (rw [hk0];rfl) | (simp;omega)
 have g5:(aj t==5)=false:=by first | (rw [hk0];rfl) | (simp;omega)
 have g6:(aj t==6)=true:=by rw [hk0];rfl
 clear hk0 HA hlen Dq MG hcw hl hk HT0 Hb0;by_cases n0:av t=0
 ·have en:(av t==0)=true:=by rw [n0];rfl
  clear n0;by_cases s0:bn t=true
  ·have es:(ay t).toList.isEmpty=true:=s0;clear s0;by_cases k0:nK t=nL t
   ·have ek:((nK t:Int)==(nL t:Int))=true:=by simp [k0]
    clear k0;go_in;go_wp2_with fail;go_ret;exact ⟨bq.of HB1.out,l,j5.out,Or.inr ⟨HR.out,rfl⟩⟩
   ·have ek:((nK t:Int)==(nL t:Int))=false:=by simp;omega
    clear k0;go_in;go_wp2_with fail;go_ret;exact ⟨bq.of HB1.out,l,j5.out,Or.inr ⟨HR.out,rfl⟩⟩
  ·have es:(ay t).toList.isEmpty=false:=by simpa [bn] using s0
   clear s0;go_in;go_wp2_with fail;go_ret;exact ⟨bq.of HB1.out,l,j5.out,Or.inr ⟨HR.out,rfl⟩⟩
 ·have en:(av t==0)=false:=by simpa using n0
  clear n0;go_in;go_wp2_with fail;go_ret;exact ⟨bq.of HB1.out,l,j5.out,Or.inr ⟨HR.out,rfl⟩⟩
theorem abq {Tb:World->Prop} (c:Nat) (hS:dZ Tb c) (w0:World) (hN:w0.heap.size<=c) (m:Nat)  (ih:Ak Tb c w0 m) (hm:m<12) (f:Nat) (v:Value) (t:T) (l:Int) (w:World)
  (h:At w0 f v t) (hb0:Below w0.heap.size w0 w) (hH:gM c l w) (hT:Tb w) (l0:0<=l) (l1:l<=1048576) (hk0:aj t=5) :
  Calls Tryz.prog 73 #[.pointer (some ⟨c,0,none⟩),v,.int .i64 (12 - ((m+1:Nat):Int))] w fun e w'=>iK c w (aP (m+1) t l) e w':=by
 obtain ⟨f,La,Ka,Lc,Kc,rfl,rfl,hf,hl,hk⟩:=h.open;have hlen:=hf.l1;have Dq:=hf.m1;have MG:=hf.s1;have hcw:=hH.lt;have HB1:=ak (aY w (vC t La Lc Ka Kc));have j5:=ak (hH.keep HB1.out);have HT0:=ak hT;have Hb0:=ak hb0;have HA:=ak (h.keep (hb0.trans (HB1.out.mono (Nat.le_trans hN (Nat.le_of_lt hH.lt)))));clear h hb0 hH hT hf
 have gU:Hid (aP (m+1) t l=if av t=0/\bn t=true/\nK t=0 then (aZ 5 l).bind (dN (aP m) t (nL t)) else none):=by
  show aP (m+1) t l=_;simp [aP,hk0]
 have g1:(aj t==1)=false:=by first | (rw [hk0];rfl) | (simp;omega)
 have g2:(aj t==2)=false:=by first | (rw [hk0];rfl) | (simp;omega)
 have g3:(aj t==3)=false:=by first | (rw [hk0];rfl) | (simp;omega)
 have g4:(aj t==4)=false:=by first | (rw [hk0];rfl) | (simp;omega)
 have g5:(aj t==5)=true:=by rw [hk0];rfl
 have em:(12:Int) - ((m+1:Nat):Int)=11 - m:=by omega
 rw [em];have em2:(11:Int) - m+1=12 - m:=by omega
 have hm2:(11:Int) - m<12:=by omega
 clear hk0 HA em;by_cases n0:av t=0
 ·have en:(av t==0)=true:=by rw [n0];rfl
  by_cases s0:bn t=true
  ·have es:(ay t).toList.isEmpty=true:=s0;by_cases k0:nK t=0
   ·have ek:((nK t:Int)==0)=true:=by simp [k0]
    have HR:Hid (aP (m+1) t l=(aZ 5 l).bind (dN (aP m) t (nL t))):=by show aP (m+1) t l=_;rw [gU.out,if_pos ⟨n0,s0,k0⟩]
    clear n0 s0 k0;go_in;go_wp2_with fail;refine (iL c l 5 _ j5.out l0 l1 (by omega) (by omega)).mono ?_;rintro e w3 ⟨rfl,K3,B3⟩;have Dh:=ak K3;have HB3:=ak B3;clear K3 B3;by_cases h9:5<=l
    ·have HR2:Hid (aZ 5 l=some (l - 5)):=by show aZ 5 l=_;unfold aZ;rw [if_pos h9]
     obtain ⟨q0,q1,q2,q3,q4,hz⟩:=Ai hcw HB3.out;have bT:=ak ((bq.of HB1.out).trans HB3.out);go_wp2_with fail;have HRR:Hid (aP (m+1) t l=dN (aP m) t (nL t) (l - 5)):=by show aP (m+1) t l=_;rw [HR.out,HR2.out];rfl
     refine (AU c hS w0 hN m ih f La Lc t (l - 5) w3 (hl.out) hlen (Hb0.out.trans ((bT.out.below (Nat.le_of_lt hcw)).mono hN)) Dh.out (hS _ _ HT0.out (bT.out.below (Nat.le_of_lt hcw))) (by omega) (by omega)).mono ?_;rintro e w4 ⟨B4,l',K4,hr⟩;have eF:=ak (bT.out.trans B4);have HK4:=ak K4;clear B4 K4;rcases hr with ⟨hr,y0,y1,rfl⟩ | ⟨hr,rfl⟩
     ·have Hr:=ak hr;clear hr;go_wp2_with fail;go_ret;exact ⟨eF.out,l',HK4.out,Or.inl ⟨HRR.out.trans Hr.out,y0,y1,rfl⟩⟩
     ·have Hr:=ak hr;clear hr;go_wp2_with fail;go_ret;exact ⟨eF.out,l',HK4.out,Or.inr ⟨HRR.out.trans Hr.out,rfl⟩⟩
    ·have HR2:Hid (aZ 5 l=none):=by show aZ 5 l=_;unfold aZ;rw [if_neg h9]
     have hd:decide ((5:Int)<=l)=false:=decide_eq_false h9;clear h9;go_wp2_with fail;go_ret;exact ⟨(bq.of HB1.out).trans HB3.out,l - 5,Dh.out,Or.inr ⟨by rw [HR.out,HR2.out];rfl,rfl⟩⟩
   ·have ek:((nK t:Int)==0)=false:=by simp;omega
    have HR:Hid (aP (m+1) t l=none):=by show aP (m+1) t l=none;rw [gU.out,if_neg (fun h=>k0 h.2.2)]
    clear n0 s0 k0;go_in;go_wp2_with fail;go_ret;exact ⟨bq.of HB1.out,l,j5.out,Or.inr ⟨HR.out,rfl⟩⟩
  ·have es:(ay t).toList.isEmpty=false:=by simpa [bn] using s0
   have HR:Hid (aP (m+1) t l=none):=by show aP (m+1) t l=none;rw [gU.out,if_neg (fun h=>s0 h.2.1)]
   clear n0 s0;go_in;go_wp2_with fail;go_ret;exact ⟨bq.of HB1.out,l,j5.out,Or.inr ⟨HR.out,rfl⟩⟩
 ·have en:(av t==0)=false:=by simpa using n0
  have HR:Hid (aP (m+1) t l=none):=by show aP (m+1) t l=none;rw [gU.out,if_neg (fun h=>n0 h.1)]
  clear n0;go_in;go_wp2_with fail;go_ret;exact ⟨bq.of HB1.out,l,j5.out,Or.inr ⟨HR.out,rfl⟩⟩
theorem abr {Tb:World->Prop} (hV:bF Tb) (c:Nat) (hS:dZ Tb c) (w0:World) (hN:w0.heap.size<=c) (m:Nat)  (ih:Ak Tb c w0 m) (hm:m<12) (f:Nat) (v:Value) (t:T) (l:Int) (w:World)
  (h:At w0 f v t) (hb0:Below w0.heap.size w0 w) (hH:gM c l w) (hT:Tb w) (l0:0<=l) (l1:l<=1048576) (hk0:aj t=6) :
  Calls Tryz.prog 73 #[.pointer (some ⟨c,0,none⟩),v,.int .i64 (12 - ((m+1:Nat):Int))] w fun e w'=>iK c w (aP (m+1) t l) e w':=by
 obtain ⟨f,La,Ka,Lc,Kc,rfl,rfl,hf,hl,hk⟩:=h.open;have hlen:=hf.l1;have Dq:=hf.m1;have MG:=hf.s1;have hcw:=hH.lt;have HB1:=ak (aY w (vC t La Lc Ka Kc));have j5:=ak (hH.keep HB1.out);have HT0:=ak hT;have Hb0:=ak hb0;have HA:=ak (h.keep (hb0.trans (HB1.out.mono (Nat.le_trans hN (Nat.le_of_lt hH.lt)))));clear h hb0 hH hT hf
 have gU:Hid (aP (m+1) t l=if av t=0/\bn t=true/\nK t=nL t then ((aZ 5 l).bind (lI t)).bind (dN (aP m) t (nL t)) else none):=by
  show aP (m+1) t l=_;simp [aP,hk0]
 have g1:(aj t==1)=false:=by first | (rw [hk0];rfl) | (simp;omega)
 have g2:(aj t==2)=false:=by first | (rw [hk0];rfl) | (simp;omega)
 have g3:(aj t==3)=false:=by first | (rw [hk0];rfl) | (simp;omega)
 have g4:(aj t==4)=false:=by first | (rw [hk0];rfl) | (simp;omega)
 have g5:(aj t==5)=false:=by first | (rw [hk0];rfl) | (simp;omega)
 have g6:(aj t==6)=true:=by rw [hk0];rfl
 have em:(12:Int) - ((m+1:Nat):Int)=11 - m:=by omega
 rw [em];have em2:(11:Int) - m+1=12 - m:=by omega
 have hm2:(11:Int) - m<12:=by omega
 clear hk0 HA em;by_cases n0:av t=0
 ·have en:(av t==0)=true:=by rw [n0];rfl
  by_cases s0:bn t=true
  ·have es:(ay t).toList.isEmpty=true:=s0;by_cases k0:nK t=nL t
   ·have ek:((nK t:Int)==(nL t:Int))=true:=by simp [k0]
    have HR:Hid (aP (m+1) t l=((aZ 5 l).bind (lI t)).bind (dN (aP m) t (nL t))):=by show aP (m+1) t l=_;rw [gU.out,if_pos ⟨n0,s0,k0⟩]
    clear n0 s0 k0;go_in;go_wp2_with fail;refine (iL c l 5 _ j5.out l0 l1 (by omega) (by omega)).mono ?_;rintro e w3 ⟨rfl,K3,B3⟩;have Dh:=ak K3;have HB3:=ak B3;clear K3 B3;by_cases h9:5<=l
    ·have HR2:Hid (aZ 5 l=some (l - 5)):=by show aZ 5 l=_;unfold aZ;rw [if_pos h9]
     obtain ⟨q0,q1,q2,q3,q4,hz⟩:=Ai hcw HB3.out;have bT:=ak ((bq.of HB1.out).trans HB3.out);go_wp2_with fail;refine (Q7 hV c hS w0 hN Ka Kc t (l - 5) w3 hk.out Dq (Hb0.out.trans ((bT.out.below (Nat.le_of_lt hcw)).mono hN)) Dh.out (hS _ _ HT0.out (bT.out.below (Nat.le_of_lt hcw))) (by omega) (by omega)).mono ?_;rintro e w5 ⟨B5,x,K5,hx⟩;have iN:=ak (HB3.out.trans B5);have oF:=ak (bT.out.trans B5);have HK5:=ak K5;clear B5 K5 q0 q1 q2 q3 q4 hz;obtain ⟨q0,q1,q2,q3,q4,hz⟩:=Ai hcw iN.out;rcases hx with ⟨hx,x0,x1,rfl⟩ | ⟨hx,rfl⟩
     ·have HRR:Hid (aP (m+1) t l=dN (aP m) t (nL t) x):=by show aP (m+1) t l=_;rw [HR.out,HR2.out];show ((lI t (l - 5)).bind _)=_;rw [hx];rfl
      clear hx;go_wp2_with fail;refine (AU c hS w0 hN m ih f La Lc t x w5 (hl.out) hlen (Hb0.out.trans ((oF.out.below (Nat.le_of_lt hcw)).mono hN)) HK5.out (hS _ _ HT0.out (oF.out.below (Nat.le_of_lt hcw))) (by omega) (by omega)).mono ?_;rintro e w4 ⟨B4,l',K4,hr⟩;have eF:=ak (oF.out.trans B4);have HK4:=ak K4;clear B4 K4;rcases hr with ⟨hr,y0,y1,rfl⟩ | ⟨hr,rfl⟩
      ·have Hr:=ak hr;clear hr;go_wp2_with fail;go_ret;exact ⟨eF.out,l',HK4.out,Or.inl ⟨HRR.out.trans Hr.out,y0,y1,rfl⟩⟩
      ·have Hr:=ak hr;clear hr;go_wp2_with fail;go_ret;exact ⟨eF.out,l',HK4.out,Or.inr ⟨HRR.out.trans Hr.out,rfl⟩⟩
     ·have HRR:Hid (aP (m+1) t l=none):=by show aP (m+1) t l=_;rw [HR.out,HR2.out];show ((lI t (l - 5)).bind _)=_;rw [hx];rfl
      clear hx;go_wp2_with fail;go_ret;exact ⟨oF.out,x,HK5.out,Or.inr ⟨HRR.out,rfl⟩⟩
    ·have HR2:Hid (aZ 5 l=none):=by show aZ 5 l=_;unfold aZ;rw [if_neg h9]
     have hd:decide ((5:Int)<=l)=false:=decide_eq_false h9;clear h9;go_wp2_with fail;go_ret;exact ⟨(bq.of HB1.out).trans HB3.out,l - 5,Dh.out,Or.inr ⟨by rw [HR.out,HR2.out];rfl,rfl⟩⟩
   ·have ek:((nK t:Int)==(nL t:Int))=false:=by simp;omega
    have HR:Hid (aP (m+1) t l=none):=by show aP (m+1) t l=none;rw [gU.out,if_neg (fun h=>k0 h.2.2)]
    clear n0 s0 k0;go_in;go_wp2_with fail;go_ret;exact ⟨bq.of HB1.out,l,j5.out,Or.inr ⟨HR.out,rfl⟩⟩
  ·have es:(ay t).toList.isEmpty=false:=by simpa [bn] using s0
   have HR:Hid (aP (m+1) t l=none):=by show aP (m+1) t l=none;rw [gU.out,if_neg (fun h=>s0 h.2.1)]
   clear n0 s0;go_in;go_wp2_with fail;go_ret;exact ⟨bq.of HB1.out,l,j5.out,Or.inr ⟨HR.out,rfl⟩⟩
 ·have en:(av t==0)=false:=by simpa using n0
  have HR:Hid (aP (m+1) t l=none):=by show aP (m+1) t l=none;rw [gU.out,if_neg (fun h=>n0 h.1)]
  clear n0;go_in;go_wp2_with fail;go_ret;exact ⟨bq.of HB1.out,l,j5.out,Or.inr ⟨HR.out,rfl⟩⟩
theorem YG {Tb:World->Prop} (hV:bF Tb) (c:Nat) (hS:dZ Tb c) (w0:World) (hN:w0.heap.size<=c) (m:Nat) (hm:m<=12):Ak Tb c w0 m:=by
 induction m with
 | zero =>
  intro f v t l w h hb0 hH hT l0 l1;by_cases h1:aj t=1
  ·exact Uh c hS w0 hN 0 f v t l w h hb0 hH hT l0 l1 h1
  by_cases h2:aj t=2
  ·exact Ui c hS w0 hN 0 f v t l w h hb0 hH hT l0 l1 h2
  by_cases h3:aj t=3
  ·exact Uj c hS w0 hN 0 f v t l w h hb0 hH hT l0 l1 h3
  by_cases h4:aj t=4
  ·exact Uk hV c hS w0 hN 0 f v t l w h hb0 hH hT l0 l1 h4
  by_cases h5:aj t=5
  ·exact abo c w0 hN f v t l w h hb0 hH hT l0 l1 h5
  by_cases h6:aj t=6
  ·exact abp c w0 hN f v t l w h hb0 hH hT l0 l1 h6
  exact D7 c hS w0 hN 0 f v t l w h hb0 hH hT l0 l1 ⟨h1,h2,h3,h4,h5,h6⟩
 | succ m ih =>
  have ih:=ih (by omega);intro f v t l w h hb0 hH hT l0 l1;by_cases h1:aj t=1
  ·exact Uh c hS w0 hN (m+1) f v t l w h hb0 hH hT l0 l1 h1
  by_cases h2:aj t=2
  ·exact Ui c hS w0 hN (m+1) f v t l w h hb0 hH hT l0 l1 h2
  by_cases h3:aj t=3
  ·exact Uj c hS w0 hN (m+1) f v t l w h hb0 hH hT l0 l1 h3
  by_cases h4:aj t=4
  ·exact Uk hV c hS w0 hN (m+1) f v t l w h hb0 hH hT l0 l1 h4
  by_cases h5:aj t=5
  ·exact abq c hS w0 hN m ih (by omega) f v t l w h hb0 hH hT l0 l1 h5
  by_cases h6:aj t=6
  ·exact abr hV c hS w0 hN m ih (by omega) f v t l w h hb0 hH hT l0 l1 h6
  exact D7 c hS w0 hN (m+1) f v t l w h hb0 hH hT l0 l1 ⟨h1,h2,h3,h4,h5,h6⟩
def Di (t:T):Bool:=(aP 12 t 1048576).isSome
def aV (Tb:World->Prop):Prop:=∀ w:World,Tb w->dZ Tb w.heap.size
theorem yV {Tb:World->Prop} (hV:bF Tb) (hL:aV Tb) (f:Nat) (v:Value) (t:T) (w:World) (h:At w f v t) (hT:Tb w) :
  Calls Tryz.prog 40 #[v] w fun e w'=>e=.returned (.bool (Di t))/\Below w.heap.size w w':=by
 obtain ⟨f,La,Ka,Lc,Kc,rfl,rfl,hf,hl,hk⟩:=h.open;have HA:=ak h;have HT:=ak hT;clear h hT hf hl hk;go_in;go_wp2_with fail;have HB1:Hid (Below w.heap.size w ((w.alloc (vC t La Lc Ka Kc)).alloc (.cells #[.int .i64 1048576] 114))):=(aY _ _).alloc (by simp) _;have hS:dZ Tb (w.heap.size+1):=fun w1 w2 h1 h2=>hL w HT.out w1 w2 h1 (h2.mono (by omega));have HH:Hid (gM (w.heap.size+1) 1048576 ((w.alloc (vC t La Lc Ka Kc)).alloc (.cells #[.int .i64 1048576] 114))):=⟨by simp [go_sem],by simp [go_sem],by simp⟩;have e12:(Value.int .i64 0)=.int .i64 (12 - ((12:Nat):Int)):=rfl;rw [e12];clear e12;refine (YG hV (w.heap.size+1) hS w (by omega) 12 (by omega) _ _ t 1048576 _ HA.out HB1.out HH.out (hL w HT.out _ _ HT.out HB1.out) (by omega) (by omega)).mono ?_;rintro e w2 ⟨B2,l',K2,hr⟩;have HB2:=ak (HB1.out.trans ((B2.below (by simp)).mono (by omega)));clear B2 K2;rcases hr with ⟨hr,y0,y1,rfl⟩ | ⟨hr,rfl⟩
 ·have Hr:=ak hr;clear hr;go_wp2_with fail;go_ret;exact ⟨aB (by unfold Di;rw [Hr.out];rfl),HB2.out⟩
 ·have Hr:=ak hr;clear hr;go_wp2_with fail;go_ret;exact ⟨aB (by unfold Di;rw [Hr.out];rfl),HB2.out⟩
end Go.Proofs.YtknakfpciccoaaaGreatDoor
