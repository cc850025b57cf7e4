import Derived.Test.YtknakfpciccoaaaGreatDoorZC28
/- The walk of symMergeCmpFunc: one element on the left; one on the right. -/
set_option maxHeartbeats 8000000
set_option maxRecDepth 100000
namespace Go.Proofs.YtknakfpciccoaaaGreatDoor
open Go.RowKit
def Im (c:T->T->Int) (l:List T) (a:Nat):Nat->Nat->Nat->Nat
 | 0,i,_=>i
 | f+1,i,j=>if i<j then (if c (l.getD ((i+j) / 2) aM) (l.getD a aM)<0 then Im c l a f ((i+j) / 2+1) j else Im c l a f i ((i+j) / 2)) else i
def Io (c:T->T->Int) (l:List T) (m:Nat):Nat->Nat->Nat->Nat
 | 0,i,_=>i
 | f+1,i,j=>if i<j then (if c (l.getD m aM) (l.getD ((i+j) / 2) aM)<0 then Io c l m f i ((i+j) / 2) else Io c l m f ((i+j) / 2+1) j) else i
def TY:Nat->Nat->List T->List T
 | 0,_,l=>l
 | k+1,i,l=>TY k (i+1) (gq l i (i+1))
def T9:Nat->Nat->List T->List T
 | 0,_,l=>l
 | k+1,i,l=>T9 k (i - 1) (gq l i (i - 1))
theorem ZG (c:T->T->Int) (l:List T) (a f i j:Nat) (h:¬ i<j):Im c l a f i j=i:=by
 cases f with
 | zero=>rfl
 | succ f=>rw [Im,if_neg h]
theorem ZH (c:T->T->Int) (l:List T) (a f i j:Nat) (h:¬ i<j):Io c l a f i j=i:=by
 cases f with
 | zero=>rfl
 | succ f=>rw [Io,if_neg h]
theorem Xe {Tb:World->Prop} (hL:aV Tb) (w0:World) (g n cap:Nat) (c:T->T->Int) (ov:Value) (a m b:Nat) (l:List T) (w:World) (hC:tu Tb w0 ov c) (h:qd w0 g n cap l w) (hma:m=a+1) (hmb:m<=b) (hb:b<=n) (hn:n<=1000000) (han:a<n) (hT:Tb w0) :
  Calls Tryz.prog 370 #[.slice (some ⟨g,0,none⟩) n cap,.int .i64 a,.int .i64 m,.int .i64 b,.func (Fn.func 365) #[ov] #[]] w (fJ w0 g n cap (TY (Im c l a (b - m) m b - 1 - a) a l) w):=by
 have HC:=ak hC;have HT:Hid (∀ w':World,Below w0.heap.size w0 w'->Tb w'):=fun w' hb=>hL w0 hT w0 w' hT hb;have HI:=ak h;have hw1:IntKind.i64.wrap ((m:Int) - (a:Int))=1:=by rw [IntKind.wrap_i64];omega
 have Hma:=ak hma;have hmn:=han;have hml:(a:Int)<(n:Int):=by omega
 clear hC h hT hL hma;go_in;go_wp2_with fail;go_loopg [10,11] (b - m) (fun gh ii jj wr=>∃ (i j f:Nat),gh=j - i/\m<=i/\i<=j/\j<=b/\ii=.int .i64 i/\jj=.int .i64 j/\Hid (qd w0 g n cap l wr)/\Hid (Below w0.heap.size w wr)/\Hid (Im c l a (b - m) m b=Im c l a f i j/\j - i<=f))
 case atStart=>exact ⟨m,b,b - m,rfl,Nat.le_refl _,hmb,Nat.le_refl _,rfl,rfl,HI,Below.refl _ _,rfl,Nat.le_refl _⟩
 case round =>
  clear HI;obtain ⟨i,j',f,rfl,hi1,hi2,hi3,rfl,rfl,HS,HB,HE⟩:=hrel;by_cases hlt:i<j'
  ·obtain ⟨f,rfl⟩:∃ f',f=f'+1:=⟨f - 1,by have:=HE.out.2;omega⟩;obtain ⟨s2,hs2⟩:∃ s2,i+j'=s2:=⟨_,rfl⟩;obtain ⟨j,hj⟩:∃ j,s2 / 2=j:=⟨_,rfl⟩;have hjn:j<n:=by omega
   obtain ⟨tj,htj⟩:∃ tj,l.getD j aM=tj:=⟨_,rfl⟩;obtain ⟨tm,vw⟩:∃ tm,l.getD a aM=tm:=⟨_,rfl⟩;obtain ⟨kj,JA,JB,JC,JD,haj,hcj,hfj⟩:=HS.out.get hjn htj;obtain ⟨km,MA,MB,MC,MD,Az,hcm,hfm⟩:=HS.out.get hmn vw
   have qW:Hid (∀ wx:World,Below wr.heap.size wr wx->(wx.cell? ⟨g,j*5,none⟩=some (.int .i64 (aj tj))/\wx.cell? ⟨g,j*5+1,none⟩=some (.int .i64 (av tj))/\wx.cell? ⟨g,j*5+2,none⟩=some (.string (ay tj))/\wx.cell? ⟨g,j*5+3,none⟩=some (.slice JA (nL tj) JB)/\wx.cell? ⟨g,j*5+4,none⟩=some (.slice JC (nK tj) JD)/\wx.cell? ⟨g,a*5,none⟩=some (.int .i64 (aj tm))/\wx.cell? ⟨g,a*5+1,none⟩=some (.int .i64 (av tm))/\wx.cell? ⟨g,a*5+2,none⟩=some (.string (ay tm))/\wx.cell? ⟨g,a*5+3,none⟩=some (.slice MA (nL tm) MB)/\wx.cell? ⟨g,a*5+4,none⟩=some (.slice MC (nK tm) MD))):=fun wx hb=>by
    obtain ⟨x0,x1,x2,x3,x4⟩:=hcj wx hb;obtain ⟨y0,y1,y2,y3,y4⟩:=hcm wx hb;exact ⟨x0,x1,x2,x3,x4,y0,y1,y2,y3,y4⟩
   have qy:=ak (qW.out _ (au _));have DV:=ak HS.out.low;have DW:=ak (HC.out tj tm _ _ wr.drew HS.out.low.drew haj Az kj km (HT.out _ HS.out.low.drew))
   have rJ:Hid (Im c l a (b - m) m b=if c tj tm<0 then Im c l a f (j+1) j' else Im c l a f i j):=by
    show _=_;rw [HE.out.1,Im,if_pos hlt,hs2,hj,htj,vw]
   have Hf:Hid (j' - (j+1)<=f/\j - i<=f/\i<=j/\j<j'):=by have:=HE.out.2;refine ⟨?_,?_,?_,?_⟩<;>omega
   have hws:IntKind.i64.wrap ((i:Int)+(j':Int))=(s2:Int):=by rw [IntKind.wrap_i64];omega
   have hw2:(s2:Int) / 2=(j:Int):=by omega
   have Cx:(i:Int)<(j':Int):=by omega
   clear hs2 hj HE;have hjl:(j:Int)<(n:Int):=by omega
   clear hcj hcm hfj hfm haj Az kj km htj vw;generalize c tj tm=cc at rJ DW;go_wp2_with fail;go_region_held3 (fun wx=>(wx.cell? ⟨g,j*5,none⟩=some (.int .i64 (aj tj))/\wx.cell? ⟨g,j*5+1,none⟩=some (.int .i64 (av tj))/\wx.cell? ⟨g,j*5+2,none⟩=some (.string (ay tj))/\wx.cell? ⟨g,j*5+3,none⟩=some (.slice JA (nL tj) JB)/\wx.cell? ⟨g,j*5+4,none⟩=some (.slice JC (nK tj) JD)/\wx.cell? ⟨g,a*5,none⟩=some (.int .i64 (aj tm))/\wx.cell? ⟨g,a*5+1,none⟩=some (.int .i64 (av tm))/\wx.cell? ⟨g,a*5+2,none⟩=some (.string (ay tm))/\wx.cell? ⟨g,a*5+3,none⟩=some (.slice MA (nL tm) MB)/\wx.cell? ⟨g,a*5+4,none⟩=some (.slice MC (nK tm) MD))) (first | exact uV | exact qy.out) ((go_at_call 365;refine DW.out.mono ?_;rintro e5 w5 ⟨rfl,hb5⟩;have uV:=qW.out _ ((au _).trans hb5)));have Hb5:=ak ((au wr).trans hb5);have IW:=ak (HS.out.keep Hb5.out);have eF:=ak (HB.out.trans (Hb5.out.mono DV.out.size));clear uV hb5 qy qW DW;obtain ⟨hf1,hf2,hf3,hf4⟩:=Hf.out;by_cases hc:cc<0
   ·have lF:Hid (Im c l a (b - m) m b=Im c l a f (j+1) j'/\j' - (j+1)<=f):=⟨rJ.out.trans (if_pos hc),hf1⟩;clear rJ;go_wp2_with fail;go_roundg (j' - (j+1))
    case rel=>exact ⟨j+1,j',f,rfl,by omega,by omega,by omega,by go_num,rfl,IW,eF,lF⟩
    case measure=>omega
   ·have lF:Hid (Im c l a (b - m) m b=Im c l a f i j/\j - i<=f):=⟨rJ.out.trans (if_neg hc),hf2⟩;clear rJ;go_wp2_with fail;go_roundg (j - i)
    case rel=>exact ⟨i,j,f,rfl,by omega,by omega,by omega,rfl,by go_num,IW,eF,lF⟩
    case measure=>omega
  ·have Cx:¬ (i:Int)<(j':Int):=by omega
   have HEi:Hid (Im c l a (b - m) m b=i):=by show _=_;rw [HE.out.1,ZG _ _ _ _ _ _ hlt]
   obtain ⟨i1,hi⟩:∃ i1,i - 1=i1:=⟨_,rfl⟩;have hwi:IntKind.i64.wrap ((i:Int) - 1)=(i1:Int):=by have:=Hma.out;rw [IntKind.wrap_i64];omega
   have Hai:Hid (a<=i1/\i1<n):=by have:=Hma.out;exact ⟨by omega,by omega⟩
   have HF:Hid (TY (Im c l a (b - m) m b - 1 - a) a l=TY (i1 - a) a l):=by show _=_;rw [HEi.out,hi]
   clear HE HEi hi hlt Hma;go_wp2_with fail;go_loopg [13] (i1 - a) (fun gh kk wr=>∃ (k:Nat) (l2:List T),gh=i1 - k/\a<=k/\k<=i1/\kk=.int .i64 k/\Hid (qd w0 g n cap l2 wr)/\Hid (Below w0.heap.size w wr)/\Hid (TY (i1 - a) a l=TY (i1 - k) k l2))
   case atStart=>exact ⟨a,l,rfl,Nat.le_refl _,Hai.out.1,rfl,HS,HB,rfl⟩
   case round =>
    clear HS HB;obtain ⟨k,l2,rfl,hk1,hk2,rfl,HS,HB,HE⟩:=hrel;by_cases hkl:k<i1
    ·obtain ⟨k1,hk⟩:∃ k1,k+1=k1:=⟨_,rfl⟩;have hjn:k<n:=by have:=Hai.out;omega
     have hmn:k1<n:=by have:=Hai.out;omega
     have hne:k≠k1:=by omega
     have lF:Hid (TY (i1 - a) a l=TY (i1 - k1) k1 (gq l2 k k1)):=by show _=_;rw [HE.out,show i1 - k=(i1 - k1)+1 by omega,TY,hk]
     have Hk:Hid (k+1=k1):=hk;obtain ⟨tj,htj⟩:∃ tj,l2.getD k aM=tj:=⟨_,rfl⟩;obtain ⟨tm,vw⟩:∃ tm,l2.getD k1 aM=tm:=⟨_,rfl⟩;obtain ⟨kj,JA,JB,JC,JD,haj,hcj,hfj⟩:=HS.out.get hjn htj;obtain ⟨km,MA,MB,MC,MD,Az,hcm,hfm⟩:=HS.out.get hmn vw;have Ow:=ak (HS.out.swap hjn hmn hne htj vw haj Az);have Ox:=ak (xG HB.out HS.out (k*5) (k1*5) (.int .i64 (aj tm)) (.int .i64 (av tm)) (.string (ay tm)) (.slice MA (nL tm) MB) (.slice MC (nK tm) MD) (.int .i64 (aj tj)) (.int .i64 (av tj)) (.string (ay tj)) (.slice JA (nL tj) JB) (.slice JC (nK tj) JD));unfold bG at Ow Ox;obtain ⟨x0,x1,x2,x3,x4⟩:=hcj wr (Below.refl _ _);obtain ⟨y0,y1,y2,y3,y4⟩:=hcm wr (Below.refl _ _);have f0:=hfj wr (Below.refl _ _) (k*5);have f1:=hfj wr (Below.refl _ _) (k*5+1);have f2:=hfj wr (Below.refl _ _) (k*5+2);have f3:=hfj wr (Below.refl _ _) (k*5+3);have f4:=hfj wr (Below.refl _ _) (k*5+4);have h0:=hfj wr (Below.refl _ _) (k1*5);have h1:=hfj wr (Below.refl _ _) (k1*5+1);have h2:=hfj wr (Below.refl _ _) (k1*5+2);have h3:=hfj wr (Below.refl _ _) (k1*5+3);have h4:=hfj wr (Below.refl _ _) (k1*5+4);have n00:¬ k*5=k1*5:=by omega
     have o00:¬ k1*5=k*5:=by omega
     have n01:¬ k*5=k1*5+1:=by omega
     have o01:¬ k1*5+1=k*5:=by omega
     have n02:¬ k*5=k1*5+2:=by omega
     have o02:¬ k1*5+2=k*5:=by omega
     have n03:¬ k*5=k1*5+3:=by omega
     have o03:¬ k1*5+3=k*5:=by omega
     have n04:¬ k*5=k1*5+4:=by omega
     have o04:¬ k1*5+4=k*5:=by omega
     have n10:¬ k*5+1=k1*5:=by omega
     have o10:¬ k1*5=k*5+1:=by omega
     have n11:¬ k*5+1=k1*5+1:=by omega
     have o11:¬ k1*5+1=k*5+1:=by omega
     have n12:¬ k*5+1=k1*5+2:=by omega
     have o12:¬ k1*5+2=k*5+1:=by omega
     have n13:¬ k*5+1=k1*5+3:=by omega
     have o13:¬ k1*5+3=k*5+1:=by omega
     have n14:¬ k*5+1=k1*5+4:=by omega
     have o14:¬ k1*5+4=k*5+1:=by omega
     have n20:¬ k*5+2=k1*5:=by omega
     have o20:¬ k1*5=k*5+2:=by omega
     have n21:¬ k*5+2=k1*5+1:=by omega
     have o21:¬ k1*5+1=k*5+2:=by omega
     have n22:¬ k*5+2=k1*5+2:=by omega
     have o22:¬ k1*5+2=k*5+2:=by omega
     have n23:¬ k*5+2=k1*5+3:=by omega
     have o23:¬ k1*5+3=k*5+2:=by omega
     have n24:¬ k*5+2=k1*5+4:=by omega
     have o24:¬ k1*5+4=k*5+2:=by omega
     have n30:¬ k*5+3=k1*5:=by omega
     have o30:¬ k1*5=k*5+3:=by omega
     have n31:¬ k*5+3=k1*5+1:=by omega
     have o31:¬ k1*5+1=k*5+3:=by omega
     have n32:¬ k*5+3=k1*5+2:=by omega
     have o32:¬ k1*5+2=k*5+3:=by omega
     have n33:¬ k*5+3=k1*5+3:=by omega
     have o33:¬ k1*5+3=k*5+3:=by omega
     have n34:¬ k*5+3=k1*5+4:=by omega
     have o34:¬ k1*5+4=k*5+3:=by omega
     have n40:¬ k*5+4=k1*5:=by omega
     have o40:¬ k1*5=k*5+4:=by omega
     have n41:¬ k*5+4=k1*5+1:=by omega
     have o41:¬ k1*5+1=k*5+4:=by omega
     have n42:¬ k*5+4=k1*5+2:=by omega
     have o42:¬ k1*5+2=k*5+4:=by omega
     have n43:¬ k*5+4=k1*5+3:=by omega
     have o43:¬ k1*5+3=k*5+4:=by omega
     have n44:¬ k*5+4=k1*5+4:=by omega
     have o44:¬ k1*5+4=k*5+4:=by omega
     have hwk:IntKind.i64.wrap ((k:Int)+1)=(k1:Int):=by rw [IntKind.wrap_i64];omega
     have hjl:(k:Int)<(n:Int):=by omega
     have hml:(k1:Int)<(n:Int):=by omega
     have hilt:(k:Int)<(i1:Int):=by omega
     clear hcj hcm hfj hfm haj Az kj km htj vw hk HE HS HB;go_wp2_with fail;go_region_law (fail)
     all_goals
      clear x0 x1 x2 x3 x4 y0 y1 y2 y3 y4 f0 f1 f2 f3 f4 h0 h1 h2 h3 h4 n00 o00 n01 o01 n02 o02 n03 o03 n04 o04 n10 o10 n11 o11 n12 o12 n13 o13 n14 o14 n20 o20 n21 o21 n22 o22 n23 o23 n24 o24 n30 o30 n31 o31 n32 o32 n33 o33 n34 o34 n40 o40 n41 o41 n42 o42 n43 o43 n44 o44;have Oy:=ak (Ow.out.keep (au _));have Oz:=ak Ox.out.drew;go_wp2_with fail;go_roundg (i1 - k1)
      case rel=>have:=Hk.out;first | exact ⟨k1,gq l2 k k1,rfl,by omega,by omega,by go_num,Oy,Oz,lF⟩ | exact ⟨k1,gq l2 k k1,rfl,by omega,by omega,by go_num,Ow,Ox,lF⟩
      case measure=>have:=Hk.out;omega
    ·have hilt:¬ (k:Int)<(i1:Int):=by omega
     have HR:Hid (fJ w0 g n cap (TY (Im c l a (b - m) m b - 1 - a) a l) w (.returned (.tuple #[])) wr):=⟨rfl,by rw [HF.out,HE.out,show i1 - k=0 by omega];exact HS.out,HB.out⟩;go_wp2_with fail;refine bodyPost_end (v:=.tuple #[]) (by simp [results,Tryz.results370,go_sem]) rfl ?_;exact HR.out
theorem Xf {Tb:World->Prop} (hL:aV Tb) (w0:World) (g n cap:Nat) (c:T->T->Int) (ov:Value) (a m b:Nat) (l:List T) (w:World) (hC:tu Tb w0 ov c) (h:qd w0 g n cap l w) (hma:a+1<m) (hmb:b=m+1) (hb:b<=n) (hn:n<=1000000) (hT:Tb w0) :
  Calls Tryz.prog 370 #[.slice (some ⟨g,0,none⟩) n cap,.int .i64 a,.int .i64 m,.int .i64 b,.func (Fn.func 365) #[ov] #[]] w (fJ w0 g n cap (T9 (m - Io c l m (m - a) a m) m l) w):=by
 have HC:=ak hC;have HT:Hid (∀ w':World,Below w0.heap.size w0 w'->Tb w'):=fun w' hb=>hL w0 hT w0 w' hT hb;have HI:=ak h;obtain ⟨q,hq⟩:∃ q:Int,(m:Int) - (a:Int)=q:=⟨_,rfl⟩;have hw1:IntKind.i64.wrap ((m:Int) - (a:Int))=q:=by rw [IntKind.wrap_i64];omega
 have hq1:(q==1)=false:=by simp;omega
 have hw3:IntKind.i64.wrap ((b:Int) - (m:Int))=1:=by rw [IntKind.wrap_i64];omega
 have hjn:m<n:=by omega
 have hjl:(m:Int)<(n:Int):=by omega
 have ait:a<=m:=by omega
 clear hC h hT hL hma hq hmb;go_in;go_wp2_with fail;go_loopg [14,15] (m - a) (fun gh ii jj wr=>∃ (i j f:Nat),gh=j - i/\a<=i/\i<=j/\j<=m/\ii=.int .i64 i/\jj=.int .i64 j/\Hid (qd w0 g n cap l wr)/\Hid (Below w0.heap.size w wr)/\Hid (Io c l m (m - a) a m=Io c l m f i j/\j - i<=f))
 case atStart=>exact ⟨a,m,m - a,rfl,Nat.le_refl _,ait,Nat.le_refl _,rfl,rfl,HI,Below.refl _ _,rfl,Nat.le_refl _⟩
 case round =>
  clear HI;obtain ⟨i,j',f,rfl,hi1,hi2,hi3,rfl,rfl,HS,HB,HE⟩:=hrel;by_cases hlt:i<j'
  ·obtain ⟨f,rfl⟩:∃ f',f=f'+1:=⟨f - 1,by have:=HE.out.2;omega⟩;obtain ⟨s2,hs2⟩:∃ s2,i+j'=s2:=⟨_,rfl⟩;obtain ⟨j,hj⟩:∃ j,s2 / 2=j:=⟨_,rfl⟩;have hmn:j<n:=by omega
   obtain ⟨tj,htj⟩:∃ tj,l.getD m aM=tj:=⟨_,rfl⟩;obtain ⟨tm,vw⟩:∃ tm,l.getD j aM=tm:=⟨_,rfl⟩;obtain ⟨kj,JA,JB,JC,JD,haj,hcj,hfj⟩:=HS.out.get hjn htj;obtain ⟨km,MA,MB,MC,MD,Az,hcm,hfm⟩:=HS.out.get hmn vw
   have qW:Hid (∀ wx:World,Below wr.heap.size wr wx->(wx.cell? ⟨g,m*5,none⟩=some (.int .i64 (aj tj))/\wx.cell? ⟨g,m*5+1,none⟩=some (.int .i64 (av tj))/\wx.cell? ⟨g,m*5+2,none⟩=some (.string (ay tj))/\wx.cell? ⟨g,m*5+3,none⟩=some (.slice JA (nL tj) JB)/\wx.cell? ⟨g,m*5+4,none⟩=some (.slice JC (nK tj) JD)/\wx.cell? ⟨g,j*5,none⟩=some (.int .i64 (aj tm))/\wx.cell? ⟨g,j*5+1,none⟩=some (.int .i64 (av tm))/\wx.cell? ⟨g,j*5+2,none⟩=some (.string (ay tm))/\wx.cell? ⟨g,j*5+3,none⟩=some (.slice MA (nL tm) MB)/\wx.cell? ⟨g,j*5+4,none⟩=some (.slice MC (nK tm) MD))):=fun wx hb=>by
    obtain ⟨x0,x1,x2,x3,x4⟩:=hcj wx hb;obtain ⟨y0,y1,y2,y3,y4⟩:=hcm wx hb;exact ⟨x0,x1,x2,x3,x4,y0,y1,y2,y3,y4⟩
   have qy:=ak (qW.out _ (au _));have DV:=ak HS.out.low;have DW:=ak (HC.out tj tm _ _ wr.drew HS.out.low.drew haj Az kj km (HT.out _ HS.out.low.drew))
   have rJ:Hid (Io c l m (m - a) a m=if c tj tm<0 then Io c l m f i j else Io c l m f (j+1) j'):=by
    show _=_;rw [HE.out.1,Io,if_pos hlt,hs2,hj,htj,vw]
   have Hf:Hid (j' - (j+1)<=f/\j - i<=f/\i<=j/\j<j'):=by have:=HE.out.2;refine ⟨?_,?_,?_,?_⟩<;>omega
   have hws:IntKind.i64.wrap ((i:Int)+(j':Int))=(s2:Int):=by rw [IntKind.wrap_i64];omega
   have hw2:(s2:Int) / 2=(j:Int):=by omega
   have Cx:(i:Int)<(j':Int):=by omega
   clear hs2 hj HE;have hjl:(j:Int)<(n:Int):=by omega
   clear hcj hcm hfj hfm haj Az kj km htj vw;generalize c tj tm=cc at rJ DW;go_wp2_with fail;go_region_held3 (fun wx=>(wx.cell? ⟨g,m*5,none⟩=some (.int .i64 (aj tj))/\wx.cell? ⟨g,m*5+1,none⟩=some (.int .i64 (av tj))/\wx.cell? ⟨g,m*5+2,none⟩=some (.string (ay tj))/\wx.cell? ⟨g,m*5+3,none⟩=some (.slice JA (nL tj) JB)/\wx.cell? ⟨g,m*5+4,none⟩=some (.slice JC (nK tj) JD)/\wx.cell? ⟨g,j*5,none⟩=some (.int .i64 (aj tm))/\wx.cell? ⟨g,j*5+1,none⟩=some (.int .i64 (av tm))/\wx.cell? ⟨g,j*5+2,none⟩=some (.string (ay tm))/\wx.cell? ⟨g,j*5+3,none⟩=some (.slice MA (nL tm) MB)/\wx.cell? ⟨g,j*5+4,none⟩=some (.slice MC (nK tm) MD))) (first | exact uV | exact qy.out) ((go_at_call 365;refine DW.out.mono ?_;rintro e5 w5 ⟨rfl,hb5⟩;have uV:=qW.out _ ((au _).trans hb5)));have Hb5:=ak ((au wr).trans hb5);have IW:=ak (HS.out.keep Hb5.out);have eF:=ak (HB.out.trans (Hb5.out.mono DV.out.size));clear uV hb5 qy qW DW;obtain ⟨hf1,hf2,hf3,hf4⟩:=Hf.out;by_cases hc:cc<0
   ·rw [decide_eq_true hc,Bool.not_true];have lF:Hid (Io c l m (m - a) a m=Io c l m f i j/\j - i<=f):=⟨rJ.out.trans (if_pos hc),hf2⟩;clear rJ;go_wp2_with fail;go_roundg (j - i)
    case rel=>exact ⟨i,j,f,rfl,by omega,by omega,by omega,rfl,by go_num,IW,eF,lF⟩
    case measure=>omega
   ·rw [decide_eq_false hc,Bool.not_false];have lF:Hid (Io c l m (m - a) a m=Io c l m f (j+1) j'/\j' - (j+1)<=f):=⟨rJ.out.trans (if_neg hc),hf1⟩;clear rJ;go_wp2_with fail;go_roundg (j' - (j+1))
    case rel=>exact ⟨j+1,j',f,rfl,by omega,by omega,by omega,by go_num,rfl,IW,eF,lF⟩
    case measure=>omega
  ·have Cx:¬ (i:Int)<(j':Int):=by omega
   have HEi:Hid (Io c l m (m - a) a m=i):=by show _=_;rw [HE.out.1,ZH _ _ _ _ _ _ hlt]
   have Hai:Hid (i<=m/\m<n):=⟨by omega,hjn⟩;have HF:Hid (T9 (m - Io c l m (m - a) a m) m l=T9 (m - i) m l):=by show _=_;rw [HEi.out]
   clear HE HEi hlt hjn hjl;go_wp2_with fail;go_loopg [17] (m - i) (fun gh kk wr=>∃ (k:Nat) (l2:List T),gh=k - i/\i<=k/\k<=m/\kk=.int .i64 k/\Hid (qd w0 g n cap l2 wr)/\Hid (Below w0.heap.size w wr)/\Hid (T9 (m - i) m l=T9 (k - i) k l2))
   case atStart=>exact ⟨m,l,rfl,Hai.out.1,Nat.le_refl _,rfl,HS,HB,rfl⟩
   case round =>
    clear HS HB;obtain ⟨k,l2,rfl,hk1,hk2,rfl,HS,HB,HE⟩:=hrel;by_cases hkl:i<k
    ·obtain ⟨k1,hk⟩:∃ k1,k - 1=k1:=⟨_,rfl⟩;have hjn:k<n:=by have:=Hai.out;omega
     have hmn:k1<n:=by have:=Hai.out;omega
     have hne:k≠k1:=by omega
     have lF:Hid (T9 (m - i) m l=T9 (k1 - i) k1 (gq l2 k k1)):=by show _=_;rw [HE.out,show k - i=(k1 - i)+1 by omega,T9,hk]
     have Hk:Hid (k=k1+1):=by show _=_;omega
     obtain ⟨tj,htj⟩:∃ tj,l2.getD k aM=tj:=⟨_,rfl⟩;obtain ⟨tm,vw⟩:∃ tm,l2.getD k1 aM=tm:=⟨_,rfl⟩;obtain ⟨kj,JA,JB,JC,JD,haj,hcj,hfj⟩:=HS.out.get hjn htj;obtain ⟨km,MA,MB,MC,MD,Az,hcm,hfm⟩:=HS.out.get hmn vw;have Ow:=ak (HS.out.swap hjn hmn hne htj vw haj Az);have Ox:=ak (xG HB.out HS.out (k*5) (k1*5) (.int .i64 (aj tm)) (.int .i64 (av tm)) (.string (ay tm)) (.slice MA (nL tm) MB) (.slice MC (nK tm) MD) (.int .i64 (aj tj)) (.int .i64 (av tj)) (.string (ay tj)) (.slice JA (nL tj) JB) (.slice JC (nK tj) JD));unfold bG at Ow Ox;obtain ⟨x0,x1,x2,x3,x4⟩:=hcj wr (Below.refl _ _);obtain ⟨y0,y1,y2,y3,y4⟩:=hcm wr (Below.refl _ _);have f0:=hfj wr (Below.refl _ _) (k*5);have f1:=hfj wr (Below.refl _ _) (k*5+1);have f2:=hfj wr (Below.refl _ _) (k*5+2);have f3:=hfj wr (Below.refl _ _) (k*5+3);have f4:=hfj wr (Below.refl _ _) (k*5+4);have h0:=hfj wr (Below.refl _ _) (k1*5);have h1:=hfj wr (Below.refl _ _) (k1*5+1);have h2:=hfj wr (Below.refl _ _) (k1*5+2);have h3:=hfj wr (Below.refl _ _) (k1*5+3);have h4:=hfj wr (Below.refl _ _) (k1*5+4);have n00:¬ k*5=k1*5:=by omega
     have o00:¬ k1*5=k*5:=by omega
     have n01:¬ k*5=k1*5+1:=by omega
     have o01:¬ k1*5+1=k*5:=by omega
     have n02:¬ k*5=k1*5+2:=by omega
     have o02:¬ k1*5+2=k*5:=by omega
     have n03:¬ k*5=k1*5+3:=by omega
     have o03:¬ k1*5+3=k*5:=by omega
     have n04:¬ k*5=k1*5+4:=by omega
     have o04:¬ k1*5+4=k*5:=by omega
     have n10:¬ k*5+1=k1*5:=by omega
     have o10:¬ k1*5=k*5+1:=by omega
     have n11:¬ k*5+1=k1*5+1:=by omega
     have o11:¬ k1*5+1=k*5+1:=by omega
     have n12:¬ k*5+1=k1*5+2:=by omega
     have o12:¬ k1*5+2=k*5+1:=by omega
     have n13:¬ k*5+1=k1*5+3:=by omega
     have o13:¬ k1*5+3=k*5+1:=by omega
     have n14:¬ k*5+1=k1*5+4:=by omega
     have o14:¬ k1*5+4=k*5+1:=by omega
     have n20:¬ k*5+2=k1*5:=by omega
     have o20:¬ k1*5=k*5+2:=by omega
     have n21:¬ k*5+2=k1*5+1:=by omega
     have o21:¬ k1*5+1=k*5+2:=by omega
     have n22:¬ k*5+2=k1*5+2:=by omega
     have o22:¬ k1*5+2=k*5+2:=by omega
     have n23:¬ k*5+2=k1*5+3:=by omega
     have o23:¬ k1*5+3=k*5+2:=by omega
     have n24:¬ k*5+2=k1*5+4:=by omega
     have o24:¬ k1*5+4=k*5+2:=by omega
     have n30:¬ k*5+3=k1*5:=by omega
     have o30:¬ k1*5=k*5+3:=by omega
     have n31:¬ k*5+3=k1*5+1:=by omega
     have o31:¬ k1*5+1=k*5+3:=by omega
     have n32:¬ k*5+3=k1*5+2:=by omega
     have o32:¬ k1*5+2=k*5+3:=by omega
     have n33:¬ k*5+3=k1*5+3:=by omega
     have o33:¬ k1*5+3=k*5+3:=by omega
     have n34:¬ k*5+3=k1*5+4:=by omega
     have o34:¬ k1*5+4=k*5+3:=by omega
     have n40:¬ k*5+4=k1*5:=by omega
     have o40:¬ k1*5=k*5+4:=by omega
     have n41:¬ k*5+4=k1*5+1:=by omega
     have o41:¬ k1*5+1=k*5+4:=by omega
     have n42:¬ k*5+4=k1*5+2:=by omega
     have o42:¬ k1*5+2=k*5+4:=by omega
     have n43:¬ k*5+4=k1*5+3:=by omega
     have o43:¬ k1*5+3=k*5+4:=by omega
     have n44:¬ k*5+4=k1*5+4:=by omega
     have o44:¬ k1*5+4=k*5+4:=by omega
     have hwk:IntKind.i64.wrap ((k:Int) - 1)=(k1:Int):=by rw [IntKind.wrap_i64];omega
     have hjl:(k:Int)<(n:Int):=by omega
     have hml:(k1:Int)<(n:Int):=by omega
     have hilt:(i:Int)<(k:Int):=by omega
     clear hcj hcm hfj hfm haj Az kj km htj vw hk HE HS HB;go_wp2_with fail;go_region_law (fail)
     all_goals
      clear x0 x1 x2 x3 x4 y0 y1 y2 y3 y4 f0 f1 f2 f3 f4 h0 h1 h2 h3 h4 n00 o00 n01 o01 n02 o02 n03 o03 n04 o04 n10 o10 n11 o11 n12 o12 n13 o13 n14 o14 n20 o20 n21 o21 n22 o22 n23 o23 n24 o24 n30 o30 n31 o31 n32 o32 n33 o33 n34 o34 n40 o40 n41 o41 n42 o42 n43 o43 n44 o44;have Oy:=ak (Ow.out.keep (au _));have Oz:=ak Ox.out.drew;go_wp2_with fail;go_roundg (k1 - i)
      case rel=>have:=Hk.out;first | exact ⟨k1,gq l2 k k1,rfl,by omega,by omega,by go_num,Oy,Oz,lF⟩ | exact ⟨k1,gq l2 k k1,rfl,by omega,by omega,by go_num,Ow,Ox,lF⟩
      case measure=>have:=Hk.out;omega
    ·have hilt:¬ (i:Int)<(k:Int):=by omega
     have HR:Hid (fJ w0 g n cap (T9 (m - Io c l m (m - a) a m) m l) w (.returned (.tuple #[])) wr):=⟨rfl,by rw [HF.out,HE.out,show k - i=0 by omega];exact HS.out,HB.out⟩;go_wp2_with fail;refine bodyPost_end (v:=.tuple #[]) (by simp [results,Tryz.results370,go_sem]) rfl ?_;exact HR.out
def I6 (c:T->T->Int) (l:List T) (p:Nat):Nat->Nat->Nat->Nat
 | 0,i,_=>i
 | f+1,i,j=>if i<j then (if c (l.getD (p - (i+j) / 2) aM) (l.getD ((i+j) / 2) aM)<0 then I6 c l p f i ((i+j) / 2) else I6 c l p f ((i+j) / 2+1) j) else i
theorem ZI (c:T->T->Int) (l:List T) (a f i j:Nat) (h:¬ i<j):I6 c l a f i j=i:=by
 cases f with
 | zero=>rfl
 | succ f=>rw [I6,if_neg h]
def Td (m st en:Nat) (l:List T):List T:=if st<m/\m<en then rP m (en - st) (m - st) (en - m) l else l
def Lm (S:Nat->Nat->Nat->List T->List T) (a m b:Nat) (l:List T):List T:=if a<m/\m<b then S a m b l else l
def Xg (S:Nat->Nat->Nat->List T->List T) (a m b mid st en:Nat) (l:List T):List T:=Lm S mid en b (Lm S a st mid (Td m st en l))
def Xh (c:T->T->Int) (l:List T) (a m b:Nat):Nat:=if (a+b) / 2<m then I6 c l ((a+b) / 2+m - 1) (b - a) ((a+b) / 2+m - b) ((a+b) / 2) else I6 c l ((a+b) / 2+m - 1) (b - a) a m
def lC (c:T->T->Int):Nat->Nat->Nat->Nat->List T->List T
 | 0=>fun _ _ _ l=>l
 | f+1=>fun a m b l=>if m=a+1 then TY (Im c l a (b - m) m b - 1 - a) a l else if b=m+1 then T9 (m - Io c l m (m - a) a m) m l else Xg (lC c f) a m b ((a+b) / 2) (Xh c l a m b) ((a+b) / 2+m - Xh c l a m b) l
theorem Xi {Tb:World->Prop} (hL:aV Tb) (w0:World) (g n cap:Nat) (c:T->T->Int) (ov:Value) (f a m b:Nat) (l:List T) (w:World) (hC:tu Tb w0 ov c) (h:qd w0 g n cap l w) (hma:a+1<m) (hmb:m+1<b) (hb:b<=n) (hn:n<=1000000) (hT:Tb w0)
  (hR:∀ (a2 m2 b2:Nat) (x:List T) (w:World),a2<m2->m2<b2->b2<=n->b2 - a2<b - a->qd w0 g n cap x w->Calls Tryz.prog 370 #[.slice (some ⟨g,0,none⟩) n cap,.int .i64 a2,.int .i64 m2,.int .i64 b2,.func (Fn.func 365) #[ov] #[]] w (fJ w0 g n cap (lC c f a2 m2 b2 x) w)) :
  Calls Tryz.prog 370 #[.slice (some ⟨g,0,none⟩) n cap,.int .i64 a,.int .i64 m,.int .i64 b,.func (Fn.func 365) #[ov] #[]] w (fJ w0 g n cap (lC c (f+1) a m b l) w):=by
 have HC:=ak hC;have HT:Hid (∀ w':World,Below w0.heap.size w0 w'->Tb w'):=fun w' hb=>hL w0 hT w0 w' hT hb;have HI:=ak h;have gU:=ak hR;obtain ⟨q0,hq0⟩:∃ q:Int,(m:Int) - (a:Int)=q:=⟨_,rfl⟩;have hw1:IntKind.i64.wrap ((m:Int) - (a:Int))=q0:=by rw [IntKind.wrap_i64];omega
 have hq1:(q0==1)=false:=by simp;omega
 obtain ⟨q3,hq3⟩:∃ q:Int,(b:Int) - (m:Int)=q:=⟨_,rfl⟩;have hw3:IntKind.i64.wrap ((b:Int) - (m:Int))=q3:=by rw [IntKind.wrap_i64];omega
 have hq4:(q3==1)=false:=by simp;omega
 obtain ⟨ab,hab⟩:∃ ab,a+b=ab:=⟨_,rfl⟩;obtain ⟨mid,hmid⟩:∃ mid,ab / 2=mid:=⟨_,rfl⟩;obtain ⟨nn,hnn⟩:∃ nn,mid+m=nn:=⟨_,rfl⟩;obtain ⟨pp,hpp⟩:∃ pp,nn - 1=pp:=⟨_,rfl⟩;obtain ⟨sb,hsb⟩:∃ sb,nn - b=sb:=⟨_,rfl⟩;have hw5:IntKind.i64.wrap ((a:Int)+(b:Int))=(ab:Int):=by rw [IntKind.wrap_i64];omega
 have hw6:(ab:Int) / 2=(mid:Int):=by omega
 have hw7:IntKind.i64.wrap ((mid:Int)+(m:Int))=(nn:Int):=by rw [IntKind.wrap_i64];omega
 have hw8:IntKind.i64.wrap ((nn:Int) - 1)=(pp:Int):=by rw [IntKind.wrap_i64];omega
 have al9:(ab:Int)<=2000000:=by omega
 have ama:(mid:Int)<=1000000:=by omega
 have amb:(nn:Int)<=2000000:=by omega
 have amc:(pp:Int)<=2000000:=by omega
 have amd:(sb:Int)<=2000000:=by omega
 have HU0:Hid (∀ s en,Xh c l a m b=s->nn - s=en->lC c (f+1) a m b l=Xg (lC c f) a m b mid s en l):=fun s en h1 h2=>by
  rw [lC];dsimp only;rw [if_neg (by omega),if_neg (by omega),h1,hab,hmid,hnn,h2]
 obtain ⟨lo,hi,HU,Hk,hgo⟩:∃ lo hi:Nat,Hid (∀ s en,I6 c l pp (b - a) lo hi=s->nn - s=en->lC c (f+1) a m b l=Xg (lC c f) a m b mid s en l)/\Hid (lo<=hi/\hi - lo<=b - a/\nn=mid+m/\pp+1=nn/\nn<=lo+b/\a<=lo/\hi<=mid/\hi<=m/\mid<b/\a<mid)/\(((mid:Int)<(m:Int)/\IntKind.i64.wrap ((nn:Int) - (b:Int))=(sb:Int)/\Hid (lo=sb/\hi=mid))\/(¬ (mid:Int)<(m:Int)/\True/\Hid (lo=a/\hi=m))):=by
  by_cases hgt:mid<m
  ·exact ⟨sb,mid,fun s en h1 h2=>HU0.out s en (by rw [Xh,hab,hmid,hnn,hpp,hsb,if_pos hgt];exact h1) h2,by refine ⟨?_,?_,?_,?_,?_,?_,?_,?_,?_,?_⟩<;>omega,.inl ⟨by omega,by rw [IntKind.wrap_i64];omega,rfl,rfl⟩⟩
  ·exact ⟨a,m,fun s en h1 h2=>HU0.out s en (by rw [Xh,hab,hmid,hnn,hpp,if_neg hgt];exact h1) h2,by refine ⟨?_,?_,?_,?_,?_,?_,?_,?_,?_,?_⟩<;>omega,.inr ⟨by omega,trivial,rfl,rfl⟩⟩
 clear hC h hT hL hma hq0 hq3 hmb hab hmid hnn hpp hsb HU0 hR;rcases hgo with ⟨hg,hw9,Hlo⟩ | ⟨hg,-,Hlo⟩
 all_goals
  go_in;go_wp2_with fail;go_loopg [20,21] (hi - lo) (fun gh ss rr wr=>∃ (s r q:Nat),gh=r - s/\lo<=s/\s<=r/\r<=hi/\ss=.int .i64 s/\rr=.int .i64 r/\Hid (qd w0 g n cap l wr)/\Hid (Below w0.heap.size w wr)/\Hid (I6 c l pp (b - a) lo hi=I6 c l pp q s r/\r - s<=q))
  case atStart=>exact ⟨lo,hi,b - a,rfl,Nat.le_refl _,Hk.out.1,Nat.le_refl _,by rw [Hlo.out.1],by rw [Hlo.out.2],HI,Below.refl _ _,rfl,Hk.out.2.1⟩
  case round =>
   clear HI;obtain ⟨st,r,q,rfl,hi1,hi2,hi3,rfl,rfl,HS,HB,HE⟩:=hrel;by_cases hlt:st<r
   ·obtain ⟨q,rfl⟩:∃ q',q=q'+1:=⟨q - 1,by have:=HE.out.2;omega⟩;obtain ⟨s2,hs2⟩:∃ s2,st+r=s2:=⟨_,rfl⟩;obtain ⟨jm,hj⟩:∃ jm,s2 / 2=jm:=⟨_,rfl⟩;obtain ⟨j,hpj⟩:∃ j,pp - jm=j:=⟨_,rfl⟩;have hjn:j<n:=by have:=Hk.out;omega
    have hmn:jm<n:=by have:=Hk.out;omega
    obtain ⟨tj,htj⟩:∃ tj,l.getD j aM=tj:=⟨_,rfl⟩;obtain ⟨tm,vw⟩:∃ tm,l.getD jm aM=tm:=⟨_,rfl⟩;obtain ⟨kj,JA,JB,JC,JD,haj,hcj,hfj⟩:=HS.out.get hjn htj;obtain ⟨km,MA,MB,MC,MD,Az,hcm,hfm⟩:=HS.out.get hmn vw
    have qW:Hid (∀ wx:World,Below wr.heap.size wr wx->(wx.cell? ⟨g,j*5,none⟩=some (.int .i64 (aj tj))/\wx.cell? ⟨g,j*5+1,none⟩=some (.int .i64 (av tj))/\wx.cell? ⟨g,j*5+2,none⟩=some (.string (ay tj))/\wx.cell? ⟨g,j*5+3,none⟩=some (.slice JA (nL tj) JB)/\wx.cell? ⟨g,j*5+4,none⟩=some (.slice JC (nK tj) JD)/\wx.cell? ⟨g,jm*5,none⟩=some (.int .i64 (aj tm))/\wx.cell? ⟨g,jm*5+1,none⟩=some (.int .i64 (av tm))/\wx.cell? ⟨g,jm*5+2,none⟩=some (.string (ay tm))/\wx.cell? ⟨g,jm*5+3,none⟩=some (.slice MA (nL tm) MB)/\wx.cell? ⟨g,jm*5+4,none⟩=some (.slice MC (nK tm) MD))):=fun wx hb=>by
     obtain ⟨x0,x1,x2,x3,x4⟩:=hcj wx hb;obtain ⟨y0,y1,y2,y3,y4⟩:=hcm wx hb;exact ⟨x0,x1,x2,x3,x4,y0,y1,y2,y3,y4⟩
    have qy:=ak (qW.out _ (au _));have DV:=ak HS.out.low;have DW:=ak (HC.out tj tm _ _ wr.drew HS.out.low.drew haj Az kj km (HT.out _ HS.out.low.drew))
    have rJ:Hid (I6 c l pp (b - a) lo hi=if c tj tm<0 then I6 c l pp q st jm else I6 c l pp q (jm+1) r):=by
     show _=_;rw [HE.out.1,I6,if_pos hlt,hs2,hj,hpj,htj,vw]
    have Hf:Hid (r - (jm+1)<=q/\jm - st<=q/\st<=jm/\jm<r):=by have:=HE.out.2;refine ⟨?_,?_,?_,?_⟩<;>omega
    have hws:IntKind.i64.wrap ((st:Int)+(r:Int))=(s2:Int):=by have:=Hk.out;rw [IntKind.wrap_i64];omega
    have hw2:(s2:Int) / 2=(jm:Int):=by omega
    have hwp:IntKind.i64.wrap ((pp:Int) - (jm:Int))=(j:Int):=by have:=Hk.out;rw [IntKind.wrap_i64];omega
    have Cx:(st:Int)<(r:Int):=by omega
    have hml:(jm:Int)<(n:Int):=by omega
    clear hs2 hj HE hpj;have hjl:(j:Int)<(n:Int):=by omega
    clear hcj hcm hfj hfm haj Az kj km htj vw;generalize c tj tm=cc at rJ DW;go_wp2_with fail;go_region_held3 (fun wx=>(wx.cell? ⟨g,j*5,none⟩=some (.int .i64 (aj tj))/\wx.cell? ⟨g,j*5+1,none⟩=some (.int .i64 (av tj))/\wx.cell? ⟨g,j*5+2,none⟩=some (.string (ay tj))/\wx.cell? ⟨g,j*5+3,none⟩=some (.slice JA (nL tj) JB)/\wx.cell? ⟨g,j*5+4,none⟩=some (.slice JC (nK tj) JD)/\wx.cell? ⟨g,jm*5,none⟩=some (.int .i64 (aj tm))/\wx.cell? ⟨g,jm*5+1,none⟩=some (.int .i64 (av tm))/\wx.cell? ⟨g,jm*5+2,none⟩=some (.string (ay tm))/\wx.cell? ⟨g,jm*5+3,none⟩=some (.slice MA (nL tm) MB)/\wx.cell? ⟨g,jm*5+4,none⟩=some (.slice MC (nK tm) MD))) (first | exact uV | exact qy.out) ((go_at_call 365;refine DW.out.mono ?_;rintro e5 w5 ⟨rfl,hb5⟩;have uV:=qW.out _ ((au _).trans hb5)));have Hb5:=ak ((au wr).trans hb5);have IW:=ak (HS.out.keep Hb5.out);have eF:=ak (HB.out.trans (Hb5.out.mono DV.out.size));clear uV hb5 qy qW DW;obtain ⟨hf1,hf2,hf3,hf4⟩:=Hf.out;by_cases hc:cc<0
    ·rw [decide_eq_true hc,Bool.not_true];have lF:Hid (I6 c l pp (b - a) lo hi=I6 c l pp q st jm/\jm - st<=q):=⟨rJ.out.trans (if_pos hc),hf2⟩;clear rJ;go_wp2_with fail;go_roundg (jm - st)
     case rel=>exact ⟨st,jm,q,rfl,by omega,by omega,by omega,rfl,by go_num,IW,eF,lF⟩
     case measure=>omega
    ·rw [decide_eq_false hc,Bool.not_false];have lF:Hid (I6 c l pp (b - a) lo hi=I6 c l pp q (jm+1) r/\r - (jm+1)<=q):=⟨rJ.out.trans (if_neg hc),hf1⟩;clear rJ;go_wp2_with fail;go_roundg (r - (jm+1))
     case rel=>exact ⟨jm+1,r,q,rfl,by omega,by omega,by omega,by go_num,rfl,IW,eF,lF⟩
     case measure=>omega
   ·have Cx:¬ (st:Int)<(r:Int):=by omega
    have HEi:Hid (I6 c l pp (b - a) lo hi=st):=by show _=_;rw [HE.out.1,ZI _ _ _ _ _ _ hlt]
    obtain ⟨en,hen⟩:∃ en,nn - st=en:=⟨_,rfl⟩;have hwe:IntKind.i64.wrap ((nn:Int) - (st:Int))=(en:Int):=by have:=Hk.out;rw [IntKind.wrap_i64];omega
    have HF:Hid (lC c (f+1) a m b l=Xg (lC c f) a m b mid st en l):=HU.out st en HEi.out hen;have Hk2:Hid (st+en=nn/\lo<=st/\st<=hi):=by have:=Hk.out;refine ⟨?_,?_,?_⟩<;>omega
    clear HE HEi hen hlt HU;obtain ⟨z1,z2,z3⟩:=Hk2.out;obtain ⟨y1,y2,y3,y4,y5,y6,y7,y8,y9,y10⟩:=Hk.out;have EA1:Hid (st<m->m<en->Td m st en l=rP m (en - st) (m - st) (en - m) l):=fun h1 h2=>by rw [Td,if_pos ⟨h1,h2⟩]
    have EA0:Hid (¬ (st<m/\m<en)->Td m st en l=l):=fun h=>by rw [Td,if_neg h]
    have EB1:Hid (∀ a m b x,a<m->m<b->Lm (lC c f) a m b x=lC c f a m b x):=fun a m b x h1 h2=>by rw [Lm,if_pos ⟨h1,h2⟩]
    have EB0:Hid (∀ a m b x,¬ (a<m/\m<b)->Lm (lC c f) a m b x=x):=fun a m b x h=>by rw [Lm,if_neg h]
    have Ua:Hid (st<m->m<en->_):=fun h1 h2=>ZF w0 g n cap (.func (Fn.func 365) #[ov] #[]) st m en l wr HS.out h1 h2 (by omega) hn;have HCb:Hid (∀ x w,a<st->st<mid->qd w0 g n cap x w->Calls Tryz.prog 370 #[.slice (some ⟨g,0,none⟩) n cap,.int .i64 a,.int .i64 st,.int .i64 mid,.func (Fn.func 365) #[ov] #[]] w (fJ w0 g n cap (lC c f a st mid x) w)):=fun x w h1 h2 h=>gU.out a st mid x w h1 h2 (by omega) (by omega) h;have DW:Hid (∀ x w,mid<en->en<b->qd w0 g n cap x w->Calls Tryz.prog 370 #[.slice (some ⟨g,0,none⟩) n cap,.int .i64 mid,.int .i64 en,.int .i64 b,.func (Fn.func 365) #[ov] #[]] w (fJ w0 g n cap (lC c f mid en b x) w)):=fun x w h1 h2 h=>gU.out mid en b x w h1 h2 (by omega) (by omega) h;by_cases hxa:(st:Int)<(m:Int)<;>by_cases hxe:(mid:Int)<(en:Int)<;>(try (exfalso;omega))<;>by_cases hxb:(m:Int)<(en:Int)<;>by_cases hxd:(st:Int)<(mid:Int)<;>(try (exfalso;omega))<;>by_cases hxc:(a:Int)<(st:Int)<;>(try (exfalso;omega))<;>by_cases hxf:(en:Int)<(b:Int)<;>(try (exfalso;omega))
    all_goals
     clear Hk gU z1 z2 z3 y1 y2 y3 y4 y5 y6 y7 y8 y9 y10;go_wp2_with fail
     try
      go_at_call 371
      (with_reducible refine Calls.mono (Ua.out (by omega) (by omega)) ?_)
      rintro e ZJ ⟨rfl,h1,h2⟩;have HS:=ak h1;have HB:=ak (HB.out.trans h2);clear h1 h2;go_wp2_with fail
     try
      go_at_call 370
      (with_reducible refine Calls.mono (HCb.out _ _ (by omega) (by omega) HS.out) ?_)
      rintro e w2x ⟨rfl,h1,h2⟩;have HS:=ak h1;have HB:=ak (HB.out.trans h2);clear h1 h2;go_wp2_with fail
     try
      go_at_call 370
      (with_reducible refine Calls.mono (DW.out _ _ (by omega) (by omega) HS.out) ?_)
      rintro e w3x ⟨rfl,h1,h2⟩;have HS:=ak h1;have HB:=ak (HB.out.trans h2);clear h1 h2;go_wp2_with fail
     refine bodyPost_end (v:=.tuple #[]) (by simp [results,Tryz.results370,go_sem]) rfl ?_;refine ⟨rfl,?_,HB.out⟩;rw [HF.out,Xg]
     first
      | rw [EA1.out (by omega) (by omega)]
      | rw [EA0.out (by omega)]
     first
      | rw [EB1.out a st mid _ (by omega) (by omega)]
      | rw [EB0.out a st mid _ (by omega)]
     first
      | rw [EB1.out mid en b _ (by omega) (by omega)]
      | rw [EB0.out mid en b _ (by omega)]
     exact HS.out
end Go.Proofs.YtknakfpciccoaaaGreatDoor
