import Derived.Test.YtknakfpciccoaaaGreatDoorZC27
import Derived.Test.YtknakfpciccoaaaGreatDoorZC25
import Derived.BigQuiet
/- A row of documents that is sorted in place: what it holds; two change places; the walk of insertionSortCmpFunc. -/
set_option maxHeartbeats 8000000
set_option maxRecDepth 100000
namespace Go.Proofs.YtknakfpciccoaaaGreatDoor
open Go.RowKit
def gq (l:List T) (i j:Nat):List T:=if i<l.length/\j<l.length then (l.set i (l.getD j aM)).set j (l.getD i aM) else l
theorem FE (l:List T) (i j:Nat):(gq l i j).length=l.length:=by unfold gq;split<;>simp
structure qd (w0:World) (g n cap:Nat) (l:List T) (w:World):Prop where
 row:∃ xs,w.ownsRow w0.heap.size 25 5 (.slice (some ⟨g,0,none⟩) n cap) n xs/\∀ i,(h:i<l.length)->At w0 13 (fv xs i) l[i]
 len:l.length=n
 low:Below w0.heap.size w0 w
 ok:∀ t ∈ l,bM t
theorem qd.keep {w0:World} {g n cap:Nat} {l:List T} {w w':World} (h:qd w0 g n cap l w) (hb:Below w.heap.size w w'):qd w0 g n cap l w':=by
 obtain ⟨⟨xs,h1,h2⟩,h3,h4,h5⟩:=h
 have hg:g<w.heap.size:=by
  rcases h1.2 with ⟨h,_⟩ | ⟨g',cap',cur,h,_,hg,_⟩
  ·cases h
  ·cases h;exact (Array.getElem?_eq_some_iff.1 hg).1
 exact ⟨⟨xs,Oh h1 (hb.block g hg),h2⟩,h3,h4.trans (hb.mono h4.size),h5⟩
theorem qd.get {w0:World} {g n cap:Nat} {l:List T} {w:World} (h:qd w0 g n cap l w) {j:Nat} (hj:j<n) {t:T} (ht:l.getD j aM=t):bM t/\∃ A B C D,At w0 13 (.agg #[.int .i64 (aj t),.int .i64 (av t),.string (ay t),.slice A (nL t) B,.slice C (nK t) D]) t/\(∀ w':World,Below w.heap.size w w'->w'.cell? ⟨g,j*5,none⟩=some (.int .i64 (aj t))/\w'.cell? ⟨g,j*5+1,none⟩=some (.int .i64 (av t))/\w'.cell? ⟨g,j*5+2,none⟩=some (.string (ay t))/\w'.cell? ⟨g,j*5+3,none⟩=some (.slice A (nL t) B)/\w'.cell? ⟨g,j*5+4,none⟩=some (.slice C (nK t) D))/\∀ w':World,Below w.heap.size w w'->∀ o,w'.frozen? ⟨g,o,none⟩=false:=by
 obtain ⟨⟨xs,h1,h2⟩,h3,h4,h5⟩:=h
 have hg:g<w.heap.size:=by
  rcases h1.2 with ⟨h,_⟩ | ⟨g',cap',cur,h,_,hg,_⟩
  ·cases h
  ·cases h;exact (Array.getElem?_eq_some_iff.1 hg).1
 have hjl:j<l.length:=by omega
 have e:l.getD j aM=l[j]:=by rw [List.getD_eq_getElem?_getD,List.getElem?_eq_getElem hjl];rfl
 have ha:=h2 j hjl;rw [<- e,ht] at ha;obtain ⟨g1,A,C,B,D,_,U6,_,_,_⟩:=ha.open;have hk:bM t:=by rw [<- ht,e];exact h5 _ (List.getElem_mem hjl)
 rw [U6] at ha;exact ⟨hk,A,B,C,D,ha,fun w' hb=>Oi (Oh h1 (hb.block g hg)) hj U6,fun w' hb o=>WO (Oh h1 (hb.block g hg)) o⟩
theorem qd.swap {w0:World} {g n cap:Nat} {l:List T} {w:World} (h:qd w0 g n cap l w) {j jm:Nat} (hj:j<n) (hm:jm<n) (hne:j≠jm) {tj tm:T} (htj:l.getD j aM=tj) (vw:l.getD jm aM=tm) {JA JC MA MC:Option Addr} {JB JD MB MD:Nat} (haj:At w0 13 (.agg #[.int .i64 (aj tj),.int .i64 (av tj),.string (ay tj),.slice JA (nL tj) JB,.slice JC (nK tj) JD]) tj) (Az:At w0 13 (.agg #[.int .i64 (aj tm),.int .i64 (av tm),.string (ay tm),.slice MA (nL tm) MB,.slice MC (nK tm) MD]) tm) :
  qd w0 g n cap (gq l j jm) (bG (bG w g (j*5) (.int .i64 (aj tm)) (.int .i64 (av tm)) (.string (ay tm)) (.slice MA (nL tm) MB) (.slice MC (nK tm) MD)) g (jm*5) (.int .i64 (aj tj)) (.int .i64 (av tj)) (.string (ay tj)) (.slice JA (nL tj) JB) (.slice JC (nK tj) JD)):=by
 obtain ⟨⟨xs,h1,h2⟩,h3,h4,h5⟩:=h;have hx:xs.length=n*5:=h1.1;have hsw:gq l j jm=(l.set j (l.getD jm aM)).set jm (l.getD j aM):=if_pos ⟨by omega,by omega⟩
 have hg0:w0.heap.size<=g:=by
  rcases h1.2 with ⟨h,_⟩ | ⟨g',cap',cur,h,hg,_⟩
  ·cases h
  ·cases h;exact hg
 obtain ⟨r1,g1⟩:=xC h1 j (.int .i64 (aj tm)) (.int .i64 (av tm)) (.string (ay tm)) (.slice MA (nL tm) MB) (.slice MC (nK tm) MD);obtain ⟨r2,g2⟩:=xC r1 jm (.int .i64 (aj tj)) (.int .i64 (av tj)) (.string (ay tj)) (.slice JA (nL tj) JB) (.slice JC (nK tj) JD);have hgr:w.grownBy (bG (bG w g (j*5) (.int .i64 (aj tm)) (.int .i64 (av tm)) (.string (ay tm)) (.slice MA (nL tm) MB) (.slice MC (nK tm) MD)) g (jm*5) (.int .i64 (aj tj)) (.int .i64 (av tj)) (.string (ay tj)) (.slice JA (nL tj) JB) (.slice JC (nK tj) JD)) (some g):=lu g1 g2;refine ⟨⟨_,r2,fun i hi=>?_⟩,by rw [FE];exact h3,?_,fun t ht=>?_⟩
 ·have hi':i<l.length:=by rw [FE] at hi;exact hi
  by_cases e1:i=jm
  ·subst e1;rw [mg (by rw [WM];omega)]
   have:(gq l j i)[i]'hi=tj:=by
    simp only [hsw,List.getElem_set_self];exact htj
   rw [this];exact haj
  ·rw [jk e1];by_cases e2:i=j
   ·subst e2;rw [mg (by omega)]
    have:(gq l i jm)[i]'hi=tm:=by
     simp only [hsw];rw [List.getElem_set_ne (by omega),List.getElem_set_self];exact vw
    rw [this];exact Az
   ·rw [jk e2]
    have:(gq l j jm)[i]'hi=l[i]:=by
     simp only [hsw];rw [List.getElem_set_ne (by omega),List.getElem_set_ne (by omega)]
    rw [this];exact h2 i hi'
 ·exact ⟨hgr.os.trans h4.os,hgr.tape.trans h4.tape,hgr.output.trans h4.output,Nat.le_trans h4.size hgr.size,fun b hb=>(hgr.block b (Nat.lt_of_lt_of_le hb h4.size) (by simp;omega)).trans (h4.block b hb)⟩
 ·have hjl:j<l.length:=by omega
  have hml:jm<l.length:=by omega
  have m1:tj ∈ l:=by rw [<- htj,List.getD_eq_getElem?_getD,List.getElem?_eq_getElem hjl];exact List.getElem_mem hjl
  have m2:tm ∈ l:=by rw [<- vw,List.getD_eq_getElem?_getD,List.getElem?_eq_getElem hml];exact List.getElem_mem hml
  rw [hsw] at ht;rcases List.mem_or_eq_of_mem_set ht with h | h
  ·rcases List.mem_or_eq_of_mem_set h with h | h
   ·exact h5 t h
   ·rw [h,vw];exact h5 _ m2
  ·rw [h,htj];exact h5 _ m1
theorem xG {w0 w W:World} {g n cap:Nat} {l:List T} (hb:Below w0.heap.size w W) (h:qd w0 g n cap l W) (o1 o2:Nat) (u0 u1 u2 u3 u4 v0 v1 v2 v3 v4:Value):Below w0.heap.size w (bG (bG W g o1 u0 u1 u2 u3 u4) g o2 v0 v1 v2 v3 v4):=by
 have hg0:w0.heap.size<=g:=by
  obtain ⟨⟨xs,h1,h2⟩,_⟩:=h;rcases h1.2 with ⟨h,_⟩ | ⟨g',cap',cur,h,hg,_⟩
  ·cases h
  ·cases h;exact hg
 have one:∀ (W:World) (o:Nat) (u:Value),Below w0.heap.size w W->Below w0.heap.size w (W.setCell ⟨g,o,none⟩ u):=fun W o u h=>by
  obtain ⟨t1,t2,t3,t4⟩:=gT W ⟨g,o,none⟩ u;exact ⟨t2.trans h.os,t3.trans h.tape,t4.trans h.output,by rw [t1];exact h.size,fun k hk=>(Below.heap_setCell _ _ _ _ (by simp;omega)).trans (h.block k hk)⟩
 unfold bG;exact one _ _ _ (one _ _ _ (one _ _ _ (one _ _ _ (one _ _ _ (one _ _ _ (one _ _ _ (one _ _ _ (one _ _ _ (one _ _ _ hb)))))))))
def oz (c:T->T->Int) (a:Nat):Nat->List T->List T
 | 0,l=>l
 | j+1,l=>if a<j+1/\c (l.getD (j+1) aM) (l.getD j aM)<0 then oz c a j (gq l (j+1) j) else l
def rO (c:T->T->Int) (a:Nat):Nat->Nat->List T->List T
 | 0,_,l=>l
 | k+1,i,l=>rO c a k (i+1) (oz c a i l)
def tu (Tb:World->Prop) (w0:World) (ov:Value) (c:T->T->Int):Prop:=∀ (a b:T) (x y:Value) (w:World),Below w0.heap.size w0 w->At w0 13 x a->At w0 13 y b->bM a->bM b->Tb w->Calls Tryz.prog 365 #[ov,x,y] w fun e w'=>e=.returned (.int .i64 (c a b))/\Below w.heap.size w w'
def fJ (w0:World) (g n cap:Nat) (l:List T) (w:World) (e:Ending) (w':World):Prop:=e=.returned (.tuple #[])/\qd w0 g n cap l w'/\Below w0.heap.size w w'
theorem ZE {Tb:World->Prop} (hL:aV Tb) (w0:World) (g n cap:Nat) (c:T->T->Int) (ov:Value) (a b:Nat) (l:List T) (w:World) (hC:tu Tb w0 ov c) (h:qd w0 g n cap l w) (hab:a<=b) (hb:b<=n) (hn:n<=1000000) (hT:Tb w0) :
  Calls Tryz.prog 369 #[.slice (some ⟨g,0,none⟩) n cap,.int .i64 a,.int .i64 b,.func (Fn.func 365) #[ov] #[]] w (fJ w0 g n cap (rO c a (b - (a+1)) (a+1) l) w):=by
 have HC:=ak hC;have HT:Hid (∀ w':World,Below w0.heap.size w0 w'->Tb w'):=fun w' hb=>hL w0 hT w0 w' hT hb;have HI:=ak h;have hw1:IntKind.i64.wrap ((a:Int)+1)=((a+1:Nat):Int):=by rw [IntKind.wrap_i64];omega
 obtain ⟨a1,ha1⟩:∃ a1,a+1=a1:=⟨_,rfl⟩;rw [ha1] at hw1 ⊢;have Ha1:=ak ha1;clear hC h hT hL ha1;go_in;go_wp2_with fail;go_loopg [8] (b+1 - a1) (fun gh ii wr=>∃ (i:Nat) (l':List T),gh=b+1 - i/\a1<=i/\i<=b+1/\ii=.int .i64 i/\Hid (qd w0 g n cap l' wr)/\Hid (Below w0.heap.size w wr)/\Hid (rO c a (b - a1) a1 l=rO c a (b - i) i l'))
 case atStart=>exact ⟨a1,l,rfl,Nat.le_refl _,(by have:=Ha1.out;omega),rfl,HI,Below.refl _ _,rfl⟩
 case round =>
  clear HI;obtain ⟨i,l',rfl,hi1,hi2,rfl,HS,HB,HE⟩:=hrel;by_cases hlt:i<b
  ·have HIi:Hid (i<n):=by show _<_;omega
   have hib:(i:Int)<(b:Int):=by omega
   go_wp2_with fail;go_loopg [9] i (fun gh jj wr=>∃ (j:Nat) (l2:List T),j=gh/\j<=i/\jj=.int .i64 j/\Hid (qd w0 g n cap l2 wr)/\Hid (Below w0.heap.size w wr)/\Hid (oz c a i l'=oz c a j l2))
   case atStart=>exact ⟨i,l',rfl,Nat.le_refl _,rfl,HS,HB,rfl⟩
   case round =>
    clear HS HB;obtain ⟨j,l2,rfl,hji,rfl,HS,HB,HE2⟩:=hrel;by_cases ha:a<j
    ·obtain ⟨jm,hjm⟩:∃ jm,j=jm+1:=⟨j - 1,by omega⟩;have hjn:j<n:=by have:=HIi.out;omega
     have hmn:jm<n:=by omega
     have hne:j≠jm:=by omega
     obtain ⟨tj,htj⟩:∃ tj,l2.getD j aM=tj:=⟨_,rfl⟩;obtain ⟨tm,vw⟩:∃ tm,l2.getD jm aM=tm:=⟨_,rfl⟩;obtain ⟨kj,JA,JB,JC,JD,haj,hcj,hfj⟩:=HS.out.get hjn htj;obtain ⟨km,MA,MB,MC,MD,Az,hcm,hfm⟩:=HS.out.get hmn vw
     have rJ:Hid (oz c a j l2=if c tj tm<0 then oz c a jm (gq l2 j jm) else l2):=by
      show _=_;subst hjm;rw [oz,htj,vw];by_cases hc:c tj tm<0
      ·rw [if_pos ⟨ha,hc⟩,if_pos hc]
      ·rw [if_neg (fun h=>hc h.2),if_neg hc]
     have qW:Hid (∀ wx:World,Below wr.heap.size wr wx->(wx.cell? ⟨g,j*5,none⟩=some (.int .i64 (aj tj))/\wx.cell? ⟨g,j*5+1,none⟩=some (.int .i64 (av tj))/\wx.cell? ⟨g,j*5+2,none⟩=some (.string (ay tj))/\wx.cell? ⟨g,j*5+3,none⟩=some (.slice JA (nL tj) JB)/\wx.cell? ⟨g,j*5+4,none⟩=some (.slice JC (nK tj) JD)/\wx.cell? ⟨g,jm*5,none⟩=some (.int .i64 (aj tm))/\wx.cell? ⟨g,jm*5+1,none⟩=some (.int .i64 (av tm))/\wx.cell? ⟨g,jm*5+2,none⟩=some (.string (ay tm))/\wx.cell? ⟨g,jm*5+3,none⟩=some (.slice MA (nL tm) MB)/\wx.cell? ⟨g,jm*5+4,none⟩=some (.slice MC (nK tm) MD))):=fun wx hb=>by
      obtain ⟨x0,x1,x2,x3,x4⟩:=hcj wx hb;obtain ⟨y0,y1,y2,y3,y4⟩:=hcm wx hb;exact ⟨x0,x1,x2,x3,x4,y0,y1,y2,y3,y4⟩
     have qy:=ak (qW.out _ (au _));have DV:=ak HS.out.low;have DW:=ak (HC.out tj tm _ _ wr.drew HS.out.low.drew haj Az kj km (HT.out _ HS.out.low.drew));have oM:=ak (And.intro haj Az);have HTj:=ak (And.intro htj vw);have Yw:=ak hfj;have hai:(a:Int)<(j:Int):=by omega
     have hwm:IntKind.i64.wrap ((j:Int) - 1)=(jm:Int):=by rw [IntKind.wrap_i64];omega
     have hjl:(j:Int)<(n:Int):=by omega
     have hml:(jm:Int)<(n:Int):=by omega
     have Hjm:=ak hjm;clear hcj hcm hfj hfm haj Az kj km htj vw hjm;generalize c tj tm=cc at rJ DW;go_wp2_with fail;go_region_held3 (fun wx=>(wx.cell? ⟨g,j*5,none⟩=some (.int .i64 (aj tj))/\wx.cell? ⟨g,j*5+1,none⟩=some (.int .i64 (av tj))/\wx.cell? ⟨g,j*5+2,none⟩=some (.string (ay tj))/\wx.cell? ⟨g,j*5+3,none⟩=some (.slice JA (nL tj) JB)/\wx.cell? ⟨g,j*5+4,none⟩=some (.slice JC (nK tj) JD)/\wx.cell? ⟨g,jm*5,none⟩=some (.int .i64 (aj tm))/\wx.cell? ⟨g,jm*5+1,none⟩=some (.int .i64 (av tm))/\wx.cell? ⟨g,jm*5+2,none⟩=some (.string (ay tm))/\wx.cell? ⟨g,jm*5+3,none⟩=some (.slice MA (nL tm) MB)/\wx.cell? ⟨g,jm*5+4,none⟩=some (.slice MC (nK tm) MD))) (first | exact uV | exact qy.out) ((go_at_call 365;refine DW.out.mono ?_;rintro e5 w5 ⟨rfl,hb5⟩;have uV:=qW.out _ ((au _).trans hb5)));have Hb5:=ak ((au wr).trans hb5);by_cases hc:cc<0
     ·have Ow:=ak ((HS.out.keep Hb5.out).swap hjn hmn hne HTj.out.1 HTj.out.2 oM.out.1 oM.out.2);have Ox:=ak (xG (HB.out.trans (Hb5.out.mono (Nat.le_trans DV.out.size (Nat.le_refl _)))) (HS.out.keep Hb5.out) (j*5) (jm*5) (.int .i64 (aj tm)) (.int .i64 (av tm)) (.string (ay tm)) (.slice MA (nL tm) MB) (.slice MC (nK tm) MD) (.int .i64 (aj tj)) (.int .i64 (av tj)) (.string (ay tj)) (.slice JA (nL tj) JB) (.slice JC (nK tj) JD));unfold bG at Ow Ox;have lF:Hid (oz c a i l'=oz c a jm (gq l2 j jm)):=by show _=_;rw [HE2.out,rJ.out,if_pos hc]
      obtain ⟨x0,x1,x2,x3,x4,y0,y1,y2,y3,y4⟩:=uV;have f0:=Yw.out w5 Hb5.out (j*5);have f1:=Yw.out w5 Hb5.out (j*5+1);have f2:=Yw.out w5 Hb5.out (j*5+2);have f3:=Yw.out w5 Hb5.out (j*5+3);have f4:=Yw.out w5 Hb5.out (j*5+4);have h0:=Yw.out w5 Hb5.out (jm*5);have h1:=Yw.out w5 Hb5.out (jm*5+1);have h2:=Yw.out w5 Hb5.out (jm*5+2);have h3:=Yw.out w5 Hb5.out (jm*5+3);have h4:=Yw.out w5 Hb5.out (jm*5+4);have air:=Hjm.out;have n00:¬ j*5=jm*5:=by omega
      have o00:¬ jm*5=j*5:=by omega
      have n01:¬ j*5=jm*5+1:=by omega
      have o01:¬ jm*5+1=j*5:=by omega
      have n02:¬ j*5=jm*5+2:=by omega
      have o02:¬ jm*5+2=j*5:=by omega
      have n03:¬ j*5=jm*5+3:=by omega
      have o03:¬ jm*5+3=j*5:=by omega
      have n04:¬ j*5=jm*5+4:=by omega
      have o04:¬ jm*5+4=j*5:=by omega
      have n10:¬ j*5+1=jm*5:=by omega
      have o10:¬ jm*5=j*5+1:=by omega
      have n11:¬ j*5+1=jm*5+1:=by omega
      have o11:¬ jm*5+1=j*5+1:=by omega
      have n12:¬ j*5+1=jm*5+2:=by omega
      have o12:¬ jm*5+2=j*5+1:=by omega
      have n13:¬ j*5+1=jm*5+3:=by omega
      have o13:¬ jm*5+3=j*5+1:=by omega
      have n14:¬ j*5+1=jm*5+4:=by omega
      have o14:¬ jm*5+4=j*5+1:=by omega
      have n20:¬ j*5+2=jm*5:=by omega
      have o20:¬ jm*5=j*5+2:=by omega
      have n21:¬ j*5+2=jm*5+1:=by omega
      have o21:¬ jm*5+1=j*5+2:=by omega
      have n22:¬ j*5+2=jm*5+2:=by omega
      have o22:¬ jm*5+2=j*5+2:=by omega
      have n23:¬ j*5+2=jm*5+3:=by omega
      have o23:¬ jm*5+3=j*5+2:=by omega
      have n24:¬ j*5+2=jm*5+4:=by omega
      have o24:¬ jm*5+4=j*5+2:=by omega
      have n30:¬ j*5+3=jm*5:=by omega
      have o30:¬ jm*5=j*5+3:=by omega
      have n31:¬ j*5+3=jm*5+1:=by omega
      have o31:¬ jm*5+1=j*5+3:=by omega
      have n32:¬ j*5+3=jm*5+2:=by omega
      have o32:¬ jm*5+2=j*5+3:=by omega
      have n33:¬ j*5+3=jm*5+3:=by omega
      have o33:¬ jm*5+3=j*5+3:=by omega
      have n34:¬ j*5+3=jm*5+4:=by omega
      have o34:¬ jm*5+4=j*5+3:=by omega
      have n40:¬ j*5+4=jm*5:=by omega
      have o40:¬ jm*5=j*5+4:=by omega
      have n41:¬ j*5+4=jm*5+1:=by omega
      have o41:¬ jm*5+1=j*5+4:=by omega
      have n42:¬ j*5+4=jm*5+2:=by omega
      have o42:¬ jm*5+2=j*5+4:=by omega
      have n43:¬ j*5+4=jm*5+3:=by omega
      have o43:¬ jm*5+3=j*5+4:=by omega
      have n44:¬ j*5+4=jm*5+4:=by omega
      have o44:¬ jm*5+4=j*5+4:=by omega
      clear air hb5 qy qW DW rJ HE2;go_wp2_with fail;go_region_law (fail)
      all_goals
       clear x0 x1 x2 x3 x4 y0 y1 y2 y3 y4 f0 f1 f2 f3 f4 h0 h1 h2 h3 h4 n00 o00 n01 o01 n02 o02 n03 o03 n04 o04 n10 o10 n11 o11 n12 o12 n13 o13 n14 o14 n20 o20 n21 o21 n22 o22 n23 o23 n24 o24 n30 o30 n31 o31 n32 o32 n33 o33 n34 o34 n40 o40 n41 o41 n42 o42 n43 o43 n44 o44;have Oy:=ak (Ow.out.keep (au _));have Oz:=ak Ox.out.drew;go_wp2_with fail;go_roundg jm
       case rel=>first | exact ⟨jm,gq l2 j jm,rfl,(by have:=Hjm.out;omega),by go_num,Oy,Oz,lF⟩ | exact ⟨jm,gq l2 j jm,rfl,(by have:=Hjm.out;omega),by go_num,Ow,Ox,lF⟩
       case measure=>have:=Hjm.out;omega
     ·have hl2:Hid (oz c a j l2=l2):=by show _=_;rw [rJ.out,if_neg hc]
      have IW:=ak (HS.out.keep Hb5.out);have eF:=ak (HB.out.trans (Hb5.out.mono DV.out.size))
      have HF:Hid (rO c a (b - a1) a1 l=rO c a (b - (i+1)) (i+1) l2):=by
       show _=_;rw [HE.out,show b - i=(b - (i+1))+1 by omega,rO,HE2.out,hl2.out]
      clear uV hb5 qy qW DW rJ;go_wp2_with fail;go_roundg (b+1 - (i+1))
      case rel=>exact ⟨i+1,l2,rfl,by omega,by omega,by go_num,IW,eF,HF⟩
      case measure=>omega
    ·have hai:¬ (a:Int)<(j:Int):=by omega
     have hl2:Hid (oz c a j l2=l2):=by
      show _=_;cases j with
      | zero=>rfl
      | succ j=>rw [oz,if_neg (fun h=>ha h.1)]
     have HF:Hid (rO c a (b - a1) a1 l=rO c a (b - (i+1)) (i+1) l2):=by
      show _=_;rw [HE.out,show b - i=(b - (i+1))+1 by omega,rO,HE2.out,hl2.out]
     go_wp2_with fail;go_quiet (fail);have HSq:=ak (HS.out.keep (below_drewN (Below.refl _ _) nq));have HBq:=ak (below_drewN HB.out nq);go_wp2_with fail;go_roundg (b+1 - (i+1))
     case rel=>exact ⟨i+1,l2,rfl,by omega,by omega,by go_num,HSq,HBq,HF⟩
     case measure=>omega
  ·have Cx:¬ (i:Int)<(b:Int):=by omega
   have HF:Hid (rO c a (b - a1) a1 l=l'):=by show _=_;rw [HE.out,show b - i=0 by omega];rfl
   have HR:Hid (fJ w0 g n cap (rO c a (b - a1) a1 l) w (.returned (.tuple #[])) wr):=⟨rfl,by rw [HF.out];exact HS.out,HB.out⟩;go_wp2_with fail;refine bodyPost_end (v:=.tuple #[]) (by simp [results,Tryz.results369,go_sem]) rfl ?_;exact HR.out
def OB (a b:Nat):Nat->Nat->List T->List T
 | 0,_,l=>l
 | k+1,i,l=>OB a b k (i+1) (gq l (a+i) (b+i))
theorem Il (w0:World) (g n cap:Nat) (cf:Value) (a b m:Nat) (l:List T) (w:World) (h:qd w0 g n cap l w) (hab:a+m<=b) (hb:b+m<=n) (hn:n<=1000000) :
  Calls Tryz.prog 372 #[.slice (some ⟨g,0,none⟩) n cap,.int .i64 a,.int .i64 b,.int .i64 m,cf] w (fJ w0 g n cap (OB a b m 0 l) w):=by
 have HI:=ak h;clear h;go_in;go_wp2_with fail;go_loopg [10] m (fun gh ii wr=>∃ (i:Nat) (l2:List T),gh=m - i/\i<=m/\ii=.int .i64 i/\Hid (qd w0 g n cap l2 wr)/\Hid (Below w0.heap.size w wr)/\Hid (OB a b m 0 l=OB a b (m - i) i l2))
 case atStart=>exact ⟨0,l,rfl,Nat.zero_le _,rfl,HI,Below.refl _ _,rfl⟩
 case round =>
  clear HI;obtain ⟨i,l2,rfl,hi,rfl,HS,HB,HE⟩:=hrel;by_cases hlt:i<m
  ·obtain ⟨j,hj⟩:∃ j,a+i=j:=⟨_,rfl⟩;obtain ⟨jm,hjm⟩:∃ jm,b+i=jm:=⟨_,rfl⟩;have hjn:j<n:=by omega
   have hmn:jm<n:=by omega
   have hne:j≠jm:=by omega
   obtain ⟨tj,htj⟩:∃ tj,l2.getD j aM=tj:=⟨_,rfl⟩;obtain ⟨tm,vw⟩:∃ tm,l2.getD jm aM=tm:=⟨_,rfl⟩;obtain ⟨kj,JA,JB,JC,JD,haj,hcj,hfj⟩:=HS.out.get hjn htj;obtain ⟨km,MA,MB,MC,MD,Az,hcm,hfm⟩:=HS.out.get hmn vw;have lF:Hid (OB a b m 0 l=OB a b (m - (i+1)) (i+1) (gq l2 j jm)):=by show _=_;rw [HE.out,show m - i=(m - (i+1))+1 by omega,OB,hj,hjm]
   have Ow:=ak (HS.out.swap hjn hmn hne htj vw haj Az);have Ox:=ak (xG HB.out HS.out (j*5) (jm*5) (.int .i64 (aj tm)) (.int .i64 (av tm)) (.string (ay tm)) (.slice MA (nL tm) MB) (.slice MC (nK tm) MD) (.int .i64 (aj tj)) (.int .i64 (av tj)) (.string (ay tj)) (.slice JA (nL tj) JB) (.slice JC (nK tj) JD));unfold bG at Ow Ox;obtain ⟨x0,x1,x2,x3,x4⟩:=hcj wr (Below.refl _ _);obtain ⟨y0,y1,y2,y3,y4⟩:=hcm wr (Below.refl _ _);have f0:=hfj wr (Below.refl _ _) (j*5);have f1:=hfj wr (Below.refl _ _) (j*5+1);have f2:=hfj wr (Below.refl _ _) (j*5+2);have f3:=hfj wr (Below.refl _ _) (j*5+3);have f4:=hfj wr (Below.refl _ _) (j*5+4);have h0:=hfj wr (Below.refl _ _) (jm*5);have h1:=hfj wr (Below.refl _ _) (jm*5+1);have h2:=hfj wr (Below.refl _ _) (jm*5+2);have h3:=hfj wr (Below.refl _ _) (jm*5+3);have h4:=hfj wr (Below.refl _ _) (jm*5+4);have n00:¬ j*5=jm*5:=by omega
   have o00:¬ jm*5=j*5:=by omega
   have n01:¬ j*5=jm*5+1:=by omega
   have o01:¬ jm*5+1=j*5:=by omega
   have n02:¬ j*5=jm*5+2:=by omega
   have o02:¬ jm*5+2=j*5:=by omega
   have n03:¬ j*5=jm*5+3:=by omega
   have o03:¬ jm*5+3=j*5:=by omega
   have n04:¬ j*5=jm*5+4:=by omega
   have o04:¬ jm*5+4=j*5:=by omega
   have n10:¬ j*5+1=jm*5:=by omega
   have o10:¬ jm*5=j*5+1:=by omega
   have n11:¬ j*5+1=jm*5+1:=by omega
   have o11:¬ jm*5+1=j*5+1:=by omega
   have n12:¬ j*5+1=jm*5+2:=by omega
   have o12:¬ jm*5+2=j*5+1:=by omega
   have n13:¬ j*5+1=jm*5+3:=by omega
   have o13:¬ jm*5+3=j*5+1:=by omega
   have n14:¬ j*5+1=jm*5+4:=by omega
   have o14:¬ jm*5+4=j*5+1:=by omega
   have n20:¬ j*5+2=jm*5:=by omega
   have o20:¬ jm*5=j*5+2:=by omega
   have n21:¬ j*5+2=jm*5+1:=by omega
   have o21:¬ jm*5+1=j*5+2:=by omega
   have n22:¬ j*5+2=jm*5+2:=by omega
   have o22:¬ jm*5+2=j*5+2:=by omega
   have n23:¬ j*5+2=jm*5+3:=by omega
   have o23:¬ jm*5+3=j*5+2:=by omega
   have n24:¬ j*5+2=jm*5+4:=by omega
   have o24:¬ jm*5+4=j*5+2:=by omega
   have n30:¬ j*5+3=jm*5:=by omega
   have o30:¬ jm*5=j*5+3:=by omega
   have n31:¬ j*5+3=jm*5+1:=by omega
   have o31:¬ jm*5+1=j*5+3:=by omega
   have n32:¬ j*5+3=jm*5+2:=by omega
   have o32:¬ jm*5+2=j*5+3:=by omega
   have n33:¬ j*5+3=jm*5+3:=by omega
   have o33:¬ jm*5+3=j*5+3:=by omega
   have n34:¬ j*5+3=jm*5+4:=by omega
   have o34:¬ jm*5+4=j*5+3:=by omega
   have n40:¬ j*5+4=jm*5:=by omega
   have o40:¬ jm*5=j*5+4:=by omega
   have n41:¬ j*5+4=jm*5+1:=by omega
   have o41:¬ jm*5+1=j*5+4:=by omega
   have n42:¬ j*5+4=jm*5+2:=by omega
   have o42:¬ jm*5+2=j*5+4:=by omega
   have n43:¬ j*5+4=jm*5+3:=by omega
   have o43:¬ jm*5+3=j*5+4:=by omega
   have n44:¬ j*5+4=jm*5+4:=by omega
   have o44:¬ jm*5+4=j*5+4:=by omega
   have hwj:IntKind.i64.wrap ((a:Int)+(i:Int))=(j:Int):=by rw [IntKind.wrap_i64];omega
   have hwm:IntKind.i64.wrap ((b:Int)+(i:Int))=(jm:Int):=by rw [IntKind.wrap_i64];omega
   have hjl:(j:Int)<(n:Int):=by omega
   have hml:(jm:Int)<(n:Int):=by omega
   have hilt:(i:Int)<(m:Int):=by omega
   clear hcj hcm hfj hfm haj Az kj km htj vw hj hjm HE HS HB;go_wp2_with fail;go_region_law (fail)
   all_goals
    clear x0 x1 x2 x3 x4 y0 y1 y2 y3 y4 f0 f1 f2 f3 f4 h0 h1 h2 h3 h4 n00 o00 n01 o01 n02 o02 n03 o03 n04 o04 n10 o10 n11 o11 n12 o12 n13 o13 n14 o14 n20 o20 n21 o21 n22 o22 n23 o23 n24 o24 n30 o30 n31 o31 n32 o32 n33 o33 n34 o34 n40 o40 n41 o41 n42 o42 n43 o43 n44 o44;have Oy:=ak (Ow.out.keep (au _));have Oz:=ak Ox.out.drew;go_wp2_with fail;go_roundg (m - (i+1))
    case rel=>first | exact ⟨i+1,gq l2 j jm,rfl,by omega,by go_num,Oy,Oz,lF⟩ | exact ⟨i+1,gq l2 j jm,rfl,by omega,by go_num,Ow,Ox,lF⟩
    case measure=>omega
  ·have hilt:¬ (i:Int)<(m:Int):=by omega
   have HR:Hid (fJ w0 g n cap (OB a b m 0 l) w (.returned (.tuple #[])) wr):=⟨rfl,by rw [HE.out,show m - i=0 by omega];exact HS.out,HB.out⟩;go_wp2_with fail;refine bodyPost_end (v:=.tuple #[]) (by simp [results,Tryz.results372,go_sem]) rfl ?_;exact HR.out
def rP (m:Nat):Nat->Nat->Nat->List T->List T
 | 0,_,_,l=>l
 | f+1,i,j,l=>if i=j then OB (m - i) m i 0 l else if j<i then rP m f (i - j) j (OB (m - i) m j 0 l) else rP m f i (j - i) (OB (m - i) (m+j - i) i 0 l)
theorem ZF (w0:World) (g n cap:Nat) (cf:Value) (a m b:Nat) (l:List T) (w:World) (h:qd w0 g n cap l w) (Az:a<m) (hmb:m<b) (hb:b<=n) (hn:n<=1000000) :
  Calls Tryz.prog 371 #[.slice (some ⟨g,0,none⟩) n cap,.int .i64 a,.int .i64 m,.int .i64 b,cf] w (fJ w0 g n cap (rP m (b - a) (m - a) (b - m) l) w):=by
 have HI:=ak h;have hw1:IntKind.i64.wrap ((m:Int) - (a:Int))=((m - a:Nat):Int):=by rw [IntKind.wrap_i64];omega
 have hw2:IntKind.i64.wrap ((b:Int) - (m:Int))=((b - m:Nat):Int):=by rw [IntKind.wrap_i64];omega
 obtain ⟨i0,hi0⟩:∃ i0,m - a=i0:=⟨_,rfl⟩;obtain ⟨j0,hj0⟩:∃ j0,b - m=j0:=⟨_,rfl⟩;rw [hi0] at hw1 ⊢;rw [hj0] at hw2 ⊢
 have HX:Hid (0<i0/\0<j0/\i0<=m/\m+j0<=n/\i0+j0<=b - a):=by
  refine ⟨?_,?_,?_,?_,?_⟩<;>omega
 clear h hi0 hj0;go_in;go_wp2_with fail;go_loopg [10,11] (i0+j0) (fun gh ii jj wr=>∃ (i j f:Nat) (l2:List T),i+j=gh/\ii=.int .i64 i/\jj=.int .i64 j/\Hid (0<i/\0<j/\i<=m/\m+j<=n/\i+j<=f)/\Hid (qd w0 g n cap l2 wr)/\Hid (Below w0.heap.size w wr)/\Hid (rP m (b - a) i0 j0 l=rP m f i j l2))
 case atStart=>exact ⟨i0,j0,b - a,l,rfl,rfl,rfl,HX,HI,Below.refl _ _,rfl⟩
 case round =>
  clear HI HX hw1 hw2;obtain ⟨i,j,f,l2,rfl,rfl,rfl,HX,HS,HB,HE⟩:=hrel;obtain ⟨x1,x2,x3,x4,x5⟩:=HX.out;obtain ⟨f,rfl⟩:∃ f',f=f'+1:=⟨f - 1,by omega⟩;obtain ⟨mi,hmi⟩:∃ mi,m - i=mi:=⟨_,rfl⟩;have hwi:IntKind.i64.wrap ((m:Int) - (i:Int))=(mi:Int):=by rw [IntKind.wrap_i64];omega
  by_cases hij:i=j
  ·subst hij;have HE2:Hid (rP m (b - a) i0 j0 l=OB mi m i 0 l2):=by show _=_;rw [HE.out,rP,if_pos rfl,hmi]
   have HC:=ak (Il w0 g n cap cf mi m i l2 wr HS.out (by omega) (by omega) hn);have DV:=ak HB.out;clear HE HX x1 x2 x3 x4 x5 hmi;go_wp2_with fail;refine HC.out.mono ?_;rintro e w2 ⟨rfl,h1,h2⟩;have HR:Hid (fJ w0 g n cap (rP m (b - a) i0 j0 l) w (.returned (.tuple #[])) w2):=⟨rfl,by rw [HE2.out];exact h1,DV.out.trans h2⟩;clear h1 h2 HC;go_wp2_with fail;refine bodyPost_end (v:=.tuple #[]) (by simp [results,Tryz.results371,go_sem]) rfl ?_;exact HR.out
  ·have al6:((i:Int)==(j:Int))=false:=by simp;omega
   by_cases hgt:j<i
   ·have hgi:(j:Int)<(i:Int):=by omega
    have HE2:Hid (rP m (b - a) i0 j0 l=rP m f (i - j) j (OB mi m j 0 l2)):=by show _=_;rw [HE.out,rP,if_neg hij,if_pos hgt,hmi]
    have HC:=ak (Il w0 g n cap cf mi m j l2 wr HS.out (by omega) (by omega) hn);obtain ⟨ij,hij2⟩:∃ ij,i - j=ij:=⟨_,rfl⟩;have hws:IntKind.i64.wrap ((i:Int) - (j:Int))=(ij:Int):=by rw [IntKind.wrap_i64];omega
    rw [hij2] at HE2;have kr:Hid (0<ij/\0<j/\ij<=m/\m+j<=n/\ij+j<=f):=by refine ⟨?_,?_,?_,?_,?_⟩<;>omega
    have Hm:Hid (ij+j<i+j):=by show _<_;omega
    clear HE HX x1 x2 x3 x4 x5 hmi hij hij2 hgt;go_wp2_with fail;refine HC.out.mono ?_;rintro e w2 ⟨rfl,h1,h2⟩;have HS2:=ak h1;have HB2:=ak (HB.out.trans h2);clear h1 h2 HC;go_wp2_with fail;go_roundg (ij+j)
    case rel=>exact ⟨ij,j,f,_,rfl,rfl,rfl,kr,HS2,HB2,HE2⟩
    case measure=>exact Hm.out
   ·have hgi:¬ (j:Int)<(i:Int):=by omega
    obtain ⟨mj,hmj⟩:∃ mj,m+j=mj:=⟨_,rfl⟩;obtain ⟨mk,hmk⟩:∃ mk,m+j - i=mk:=⟨_,rfl⟩;have hw5:IntKind.i64.wrap ((m:Int)+(j:Int))=(mj:Int):=by rw [IntKind.wrap_i64];omega
    have hw6:IntKind.i64.wrap ((mj:Int) - (i:Int))=(mk:Int):=by rw [IntKind.wrap_i64];omega
    have HE2:Hid (rP m (b - a) i0 j0 l=rP m f i (j - i) (OB mi mk i 0 l2)):=by show _=_;rw [HE.out,rP,if_neg hij,if_neg hgt,hmi,hmk]
    have HC:=ak (Il w0 g n cap cf mi mk i l2 wr HS.out (by omega) (by omega) hn);obtain ⟨ij,hij2⟩:∃ ij,j - i=ij:=⟨_,rfl⟩;have hws:IntKind.i64.wrap ((j:Int) - (i:Int))=(ij:Int):=by rw [IntKind.wrap_i64];omega
    rw [hij2] at HE2;have kr:Hid (0<i/\0<ij/\i<=m/\m+ij<=n/\i+ij<=f):=by refine ⟨?_,?_,?_,?_,?_⟩<;>omega
    have Hm:Hid (i+ij<i+j):=by show _<_;omega
    clear HE HX x1 x2 x3 x4 x5 hmi hij hij2 hgt hmj hmk;go_wp2_with fail;refine HC.out.mono ?_;rintro e w2 ⟨rfl,h1,h2⟩;have HS2:=ak h1;have HB2:=ak (HB.out.trans h2);clear h1 h2 HC;go_wp2_with fail;go_roundg (i+ij)
    case rel=>exact ⟨i,ij,f,_,rfl,rfl,rfl,kr,HS2,HB2,HE2⟩
    case measure=>exact Hm.out
end Go.Proofs.YtknakfpciccoaaaGreatDoor
