import Derived.Test.YtknakfpciccoaabGreatDoorZS28
import Derived.Test.YtknakfpciccoaabGreatDoorZS26
/- The walk of symMergeCmpFunc: the general case, the other way; both. -/
namespace Go.Proofs.YtknakfpciccoaabGreatDoor
open Go.RowKit
set_option maxHeartbeats 8000000 in
set_option maxRecDepth 100000 in
theorem sym3b_any {Tb:World→Prop} (hL:Lies Tb) (w0:World) (g n cap:Nat) (c:T→T→Int) (ov:Value) (f a m b:Nat) (l:List T) (w:World) (hC:CmSaid Tb w0 ov c) (h:SoI w0 g n cap l w) (hma:a+1<m) (hmb:m+1<b) (hb:b≤n) (hn:n≤1000000) (hT:Tb w0) (hgt0:¬ (a+b) / 2<m)
  (hR:∀ (a2 m2 b2:Nat) (x:List T) (w:World),a2<m2→m2<b2→b2≤n→b2 - a2<b - a→SoI w0 g n cap x w→Calls Tryz.prog 251 #[.slice (some ⟨g,0,none⟩) n cap,.int .i64 a2,.int .i64 m2,.int .i64 b2,.func (Fn.func 246) #[ov] #[]] w (SoPost w0 g n cap (symL c f a2 m2 b2 x) w)) :
  Calls Tryz.prog 251 #[.slice (some ⟨g,0,none⟩) n cap,.int .i64 a,.int .i64 m,.int .i64 b,.func (Fn.func 246) #[ov] #[]] w (SoPost w0 g n cap (symL c (f+1) a m b l) w):=by
 have HC:=hid hC
 have HT:Hid (∀ w':World,Below w0.heap.size w0 w'→Tb w'):=fun w' hb=>hL w0 hT w0 w' hT hb
 have HI:=hid h
 have HR0:=hid hR
 obtain ⟨q0,hq0⟩:∃ q:Int,(m:Int) - (a:Int)=q:=⟨_,rfl⟩
 have hw1:IntKind.i64.wrap ((m:Int) - (a:Int))=q0:=by rw [IntKind.wrap_i64];omega
 have hq1:(q0==1)=false:=by simp;omega
 obtain ⟨q3,hq3⟩:∃ q:Int,(b:Int) - (m:Int)=q:=⟨_,rfl⟩
 have hw3:IntKind.i64.wrap ((b:Int) - (m:Int))=q3:=by rw [IntKind.wrap_i64];omega
 have hq4:(q3==1)=false:=by simp;omega
 obtain ⟨ab,hab⟩:∃ ab,a+b=ab:=⟨_,rfl⟩
 obtain ⟨mid,hmid⟩:∃ mid,ab / 2=mid:=⟨_,rfl⟩
 obtain ⟨nn,hnn⟩:∃ nn,mid+m=nn:=⟨_,rfl⟩
 obtain ⟨pp,hpp⟩:∃ pp,nn - 1=pp:=⟨_,rfl⟩
 obtain ⟨sb,hsb⟩:∃ sb,nn - b=sb:=⟨_,rfl⟩
 have hw5:IntKind.i64.wrap ((a:Int)+(b:Int))=(ab:Int):=by rw [IntKind.wrap_i64];omega
 have hw6:(ab:Int) / 2=(mid:Int):=by omega
 have hw7:IntKind.i64.wrap ((mid:Int)+(m:Int))=(nn:Int):=by rw [IntKind.wrap_i64];omega
 have hw8:IntKind.i64.wrap ((nn:Int) - 1)=(pp:Int):=by rw [IntKind.wrap_i64];omega
 have hxb1:(ab:Int)≤2000000:=by omega
 have hxb2:(mid:Int)≤1000000:=by omega
 have hxb3:(nn:Int)≤2000000:=by omega
 have hxb4:(pp:Int)≤2000000:=by omega
 have hxb5:(sb:Int)≤2000000:=by omega
 have HU0:Hid (∀ s en,symS c l a m b=s→nn - s=en→symL c (f+1) a m b l=symT (symL c f) a m b mid s en l):=fun s en h1 h2=>by
  rw [symL]
  dsimp only
  rw [if_neg (by omega),if_neg (by omega),h1,hab,hmid,hnn,h2]
 have hgt:¬ mid<m:=by omega
 have hg:¬ (mid:Int)<(m:Int):=by omega
 have HU:Hid (∀ s en,bs3 c l pp (b - a) a m=s→nn - s=en→symL c (f+1) a m b l=symT (symL c f) a m b mid s en l):=fun s en h1 h2=>HU0.out s en (by rw [symS,hab,hmid,hnn,hpp,if_neg hgt];exact h1) h2
 have Hk:Hid (a≤m∧m - a≤b - a∧nn=mid+m∧pp+1=nn∧nn≤a+b∧m≤mid∧mid<b∧a<mid):=by refine ⟨?_,?_,?_,?_,?_,?_,?_,?_⟩<;>omega
 clear hC h hT hL hma hq0 hq3 hmb hab hmid hnn hpp hsb HU0 hR hgt hgt0
 go_enter Tryz.func251,Tryz.ntmps251
 go_wp2_with fail
 go_loopg [20,21] (m - a) (fun gh ss rr wr=>∃ (s r q:Nat),gh=r - s∧a≤s∧s≤r∧r≤m∧ss=.int .i64 s∧rr=.int .i64 r∧Hid (SoI w0 g n cap l wr)∧Hid (Below w0.heap.size w wr)∧Hid (bs3 c l pp (b - a) a m=bs3 c l pp q s r∧r - s≤q))
 case atStart=>exact ⟨a,m,b - a,rfl,Nat.le_refl _,Hk.out.1,Nat.le_refl _,rfl,rfl,HI,Below.refl _ _,rfl,Hk.out.2.1⟩
 case round =>
  clear HI
  obtain ⟨st,r,q,rfl,hi1,hi2,hi3,rfl,rfl,HS,HB,HE⟩:=hrel
  by_cases hlt:st<r
  ·obtain ⟨q,rfl⟩:∃ q',q=q'+1:=⟨q - 1,by have:=HE.out.2;omega⟩
   obtain ⟨s2,hs2⟩:∃ s2,st+r=s2:=⟨_,rfl⟩
   obtain ⟨jm,hj⟩:∃ jm,s2 / 2=jm:=⟨_,rfl⟩
   obtain ⟨j,hpj⟩:∃ j,pp - jm=j:=⟨_,rfl⟩
   have hjn:j<n:=by have:=Hk.out;omega
   have hmn:jm<n:=by have:=Hk.out;omega
   obtain ⟨tj,htj⟩:∃ tj,l.getD j zeroT=tj:=⟨_,rfl⟩
   obtain ⟨tm,htm⟩:∃ tm,l.getD jm zeroT=tm:=⟨_,rfl⟩
   obtain ⟨kj,JA,JB,JC,JD,haj,hcj,hfj⟩:=HS.out.get hjn htj
   obtain ⟨km,MA,MB,MC,MD,ham,hcm,hfm⟩:=HS.out.get hmn htm
   have HSo:Hid (∀ wx:World,Below wr.heap.size wr wx→(wx.cell? ⟨g,j*5,none⟩=some (.int .i64 (kindOf tj))∧wx.cell? ⟨g,j*5+1,none⟩=some (.int .i64 (nOf tj))∧wx.cell? ⟨g,j*5+2,none⟩=some (.string (sOf tj))∧wx.cell? ⟨g,j*5+3,none⟩=some (.slice JA (nL tj) JB)∧wx.cell? ⟨g,j*5+4,none⟩=some (.slice JC (nK tj) JD)∧wx.cell? ⟨g,jm*5,none⟩=some (.int .i64 (kindOf tm))∧wx.cell? ⟨g,jm*5+1,none⟩=some (.int .i64 (nOf tm))∧wx.cell? ⟨g,jm*5+2,none⟩=some (.string (sOf tm))∧wx.cell? ⟨g,jm*5+3,none⟩=some (.slice MA (nL tm) MB)∧wx.cell? ⟨g,jm*5+4,none⟩=some (.slice MC (nK tm) MD))):=fun wx hb=>by
    obtain ⟨x0,x1,x2,x3,x4⟩:=hcj wx hb
    obtain ⟨y0,y1,y2,y3,y4⟩:=hcm wx hb
    exact ⟨x0,x1,x2,x3,x4,y0,y1,y2,y3,y4⟩
   have HSd:=hid (HSo.out _ (below_drew _))
   have Hlow:=hid HS.out.low
   have HCc:=hid (HC.out tj tm _ _ wr.drew HS.out.low.drew haj ham kj km (HT.out _ HS.out.low.drew))
   have HEs:Hid (bs3 c l pp (b - a) a m=if c tj tm<0 then bs3 c l pp q st jm else bs3 c l pp q (jm+1) r):=by
    show _=_
    rw [HE.out.1,bs3,if_pos hlt,hs2,hj,hpj,htj,htm]
   have Hf:Hid (r - (jm+1)≤q∧jm - st≤q∧st≤jm∧jm<r):=by have:=HE.out.2;refine ⟨?_,?_,?_,?_⟩<;>omega
   have hws:IntKind.i64.wrap ((st:Int)+(r:Int))=(s2:Int):=by have:=Hk.out;rw [IntKind.wrap_i64];omega
   have hw2:(s2:Int) / 2=(jm:Int):=by omega
   have hwp:IntKind.i64.wrap ((pp:Int) - (jm:Int))=(j:Int):=by have:=Hk.out;rw [IntKind.wrap_i64];omega
   have hlti:(st:Int)<(r:Int):=by omega
   have hml:(jm:Int)<(n:Int):=by omega
   clear hs2 hj HE hpj
   have hjl:(j:Int)<(n:Int):=by omega
   clear hcj hcm hfj hfm haj ham kj km htj htm
   generalize c tj tm=cc at HEs HCc
   go_wp2_with fail
   go_region_held3 (fun wx=>(wx.cell? ⟨g,j*5,none⟩=some (.int .i64 (kindOf tj))∧wx.cell? ⟨g,j*5+1,none⟩=some (.int .i64 (nOf tj))∧wx.cell? ⟨g,j*5+2,none⟩=some (.string (sOf tj))∧wx.cell? ⟨g,j*5+3,none⟩=some (.slice JA (nL tj) JB)∧wx.cell? ⟨g,j*5+4,none⟩=some (.slice JC (nK tj) JD)∧wx.cell? ⟨g,jm*5,none⟩=some (.int .i64 (kindOf tm))∧wx.cell? ⟨g,jm*5+1,none⟩=some (.int .i64 (nOf tm))∧wx.cell? ⟨g,jm*5+2,none⟩=some (.string (sOf tm))∧wx.cell? ⟨g,jm*5+3,none⟩=some (.slice MA (nL tm) MB)∧wx.cell? ⟨g,jm*5+4,none⟩=some (.slice MC (nK tm) MD))) (first | exact hc5 | exact HSd.out) ((go_at_call 246;refine HCc.out.mono ?_;rintro e5 w5 ⟨rfl,hb5⟩;have hc5:=HSo.out _ ((below_drew _).trans hb5)))
   have Hb5:=hid ((below_drew wr).trans hb5)
   have HS5:=hid (HS.out.keep Hb5.out)
   have HB5:=hid (HB.out.trans (Hb5.out.mono Hlow.out.size))
   clear hc5 hb5 HSd HSo HCc
   obtain ⟨hf1,hf2,hf3,hf4⟩:=Hf.out
   by_cases hc:cc<0
   ·rw [decide_eq_true hc,Bool.not_true]
    have HE3:Hid (bs3 c l pp (b - a) a m=bs3 c l pp q st jm∧jm - st≤q):=⟨HEs.out.trans (if_pos hc),hf2⟩
    clear HEs
    go_wp2_with fail
    go_roundg (jm - st)
    case rel=>exact ⟨st,jm,q,rfl,by omega,by omega,by omega,rfl,by go_num,HS5,HB5,HE3⟩
    case measure=>omega
   ·rw [decide_eq_false hc,Bool.not_false]
    have HE3:Hid (bs3 c l pp (b - a) a m=bs3 c l pp q (jm+1) r∧r - (jm+1)≤q):=⟨HEs.out.trans (if_neg hc),hf1⟩
    clear HEs
    go_wp2_with fail
    go_roundg (r - (jm+1))
    case rel=>exact ⟨jm+1,r,q,rfl,by omega,by omega,by omega,by go_num,rfl,HS5,HB5,HE3⟩
    case measure=>omega
  ·have hlti:¬ (st:Int)<(r:Int):=by omega
   have HEi:Hid (bs3 c l pp (b - a) a m=st):=by show _=_;rw [HE.out.1,bs3_end _ _ _ _ _ _ hlt]
   obtain ⟨en,hen⟩:∃ en,nn - st=en:=⟨_,rfl⟩
   have hwe:IntKind.i64.wrap ((nn:Int) - (st:Int))=(en:Int):=by have:=Hk.out;rw [IntKind.wrap_i64];omega
   have HF:Hid (symL c (f+1) a m b l=symT (symL c f) a m b mid st en l):=HU.out st en HEi.out hen
   have Hk2:Hid (st+en=nn∧a≤st∧st≤m):=by have:=Hk.out;refine ⟨?_,?_,?_⟩<;>omega
   clear HE HEi hen hlt HU
   obtain ⟨z1,z2,z3⟩:=Hk2.out
   obtain ⟨y1,y2,y3,y4,y5,y6,y7,y8⟩:=Hk.out
   by_cases hp:st<m
   ·by_cases hq:st<mid
    ·by_cases hr:a<st
     ·by_cases hs:en<b
      ·have hxa:(st:Int)<(m:Int):=by omega
       have hxb:(m:Int)<(en:Int):=by omega
       have hxd:(st:Int)<(mid:Int):=by omega
       have hxe:(mid:Int)<(en:Int):=by omega
       have hxc:(a:Int)<(st:Int):=by omega
       have hxf:(en:Int)<(b:Int):=by omega
       have EA:Hid (symA m st en l=rotA m (en - st) (m - st) (en - m) l):=by show _=_;rw [symA,if_pos ⟨by omega,by omega⟩]
       have EB:Hid (∀ x,symB (symL c f) a st mid x=symL c f a st mid x):=fun x=>by rw [symB,if_pos ⟨by omega,by omega⟩]
       have EC:Hid (∀ x,symB (symL c f) mid en b x=symL c f mid en b x):=fun x=>by rw [symB,if_pos ⟨by omega,by omega⟩]
       have HCa:=hid (rot_any w0 g n cap (.func (Fn.func 246) #[ov] #[]) st m en l wr HS.out (by omega) (by omega) (by omega) hn)
       have HCb:Hid (∀ (x:List T) (w:World),SoI w0 g n cap x w→Calls Tryz.prog 251 #[.slice (some ⟨g,0,none⟩) n cap,.int .i64 a,.int .i64 st,.int .i64 mid,.func (Fn.func 246) #[ov] #[]] w (SoPost w0 g n cap (symL c f a st mid x) w)):=fun x w h=>HR0.out a st mid x w (by omega) (by omega) (by omega) (by omega) h
       have HCc:Hid (∀ (x:List T) (w:World),SoI w0 g n cap x w→Calls Tryz.prog 251 #[.slice (some ⟨g,0,none⟩) n cap,.int .i64 mid,.int .i64 en,.int .i64 b,.func (Fn.func 246) #[ov] #[]] w (SoPost w0 g n cap (symL c f mid en b x) w)):=fun x w h=>HR0.out mid en b x w (by omega) (by omega) (by omega) (by omega) h
       clear hp hq hr hs Hk HR0 z1 z2 z3 y1 y2 y3 y4 y5 y6 y7 y8
       go_wp2_with fail
       refine Calls.mono HCa.out ?_
       rintro e w1x ⟨rfl,h1,h2⟩
       have HS:=hid h1
       have HB:=hid (HB.out.trans h2)
       clear h1 h2
       go_wp2_with fail
       refine Calls.mono (HCb.out _ w1x HS.out) ?_
       rintro e w2x ⟨rfl,h1,h2⟩
       have HS:=hid h1
       have HB:=hid (HB.out.trans h2)
       clear h1 h2
       go_wp2_with fail
       refine Calls.mono (HCc.out _ w2x HS.out) ?_
       rintro e w3x ⟨rfl,h1,h2⟩
       have HS:=hid h1
       have HB:=hid (HB.out.trans h2)
       clear h1 h2
       have HR:Hid (SoPost w0 g n cap (symL c (f+1) a m b l) w (.returned (.tuple #[])) w3x):=⟨rfl,by rw [HF.out,symT,EA.out,EB.out,EC.out];exact HS.out,HB.out⟩
       go_wp2_with fail
       refine bodyPost_end (v:=.tuple #[]) (by simp [results,Tryz.results251,go_sem]) rfl ?_
       exact HR.out
      ·have hxa:(st:Int)<(m:Int):=by omega
       have hxb:(m:Int)<(en:Int):=by omega
       have hxd:(st:Int)<(mid:Int):=by omega
       have hxe:(mid:Int)<(en:Int):=by omega
       have hxc:(a:Int)<(st:Int):=by omega
       have hxf:¬ (en:Int)<(b:Int):=by omega
       have EA:Hid (symA m st en l=rotA m (en - st) (m - st) (en - m) l):=by show _=_;rw [symA,if_pos ⟨by omega,by omega⟩]
       have EB:Hid (∀ x,symB (symL c f) a st mid x=symL c f a st mid x):=fun x=>by rw [symB,if_pos ⟨by omega,by omega⟩]
       have EC:Hid (∀ x,symB (symL c f) mid en b x=x):=fun x=>by rw [symB,if_neg (by omega)]
       have HCa:=hid (rot_any w0 g n cap (.func (Fn.func 246) #[ov] #[]) st m en l wr HS.out (by omega) (by omega) (by omega) hn)
       have HCb:Hid (∀ (x:List T) (w:World),SoI w0 g n cap x w→Calls Tryz.prog 251 #[.slice (some ⟨g,0,none⟩) n cap,.int .i64 a,.int .i64 st,.int .i64 mid,.func (Fn.func 246) #[ov] #[]] w (SoPost w0 g n cap (symL c f a st mid x) w)):=fun x w h=>HR0.out a st mid x w (by omega) (by omega) (by omega) (by omega) h
       clear hp hq hr hs Hk HR0 z1 z2 z3 y1 y2 y3 y4 y5 y6 y7 y8
       go_wp2_with fail
       refine Calls.mono HCa.out ?_
       rintro e w1x ⟨rfl,h1,h2⟩
       have HS:=hid h1
       have HB:=hid (HB.out.trans h2)
       clear h1 h2
       go_wp2_with fail
       refine Calls.mono (HCb.out _ w1x HS.out) ?_
       rintro e w2x ⟨rfl,h1,h2⟩
       have HS:=hid h1
       have HB:=hid (HB.out.trans h2)
       clear h1 h2
       have HR:Hid (SoPost w0 g n cap (symL c (f+1) a m b l) w (.returned (.tuple #[])) w2x):=⟨rfl,by rw [HF.out,symT,EA.out,EB.out,EC.out];exact HS.out,HB.out⟩
       go_wp2_with fail
       refine bodyPost_end (v:=.tuple #[]) (by simp [results,Tryz.results251,go_sem]) rfl ?_
       exact HR.out
     ·by_cases hs:en<b
      ·have hxa:(st:Int)<(m:Int):=by omega
       have hxb:(m:Int)<(en:Int):=by omega
       have hxd:(st:Int)<(mid:Int):=by omega
       have hxe:(mid:Int)<(en:Int):=by omega
       have hxc:¬ (a:Int)<(st:Int):=by omega
       have hxf:(en:Int)<(b:Int):=by omega
       have EA:Hid (symA m st en l=rotA m (en - st) (m - st) (en - m) l):=by show _=_;rw [symA,if_pos ⟨by omega,by omega⟩]
       have EB:Hid (∀ x,symB (symL c f) a st mid x=x):=fun x=>by rw [symB,if_neg (by omega)]
       have EC:Hid (∀ x,symB (symL c f) mid en b x=symL c f mid en b x):=fun x=>by rw [symB,if_pos ⟨by omega,by omega⟩]
       have HCa:=hid (rot_any w0 g n cap (.func (Fn.func 246) #[ov] #[]) st m en l wr HS.out (by omega) (by omega) (by omega) hn)
       have HCc:Hid (∀ (x:List T) (w:World),SoI w0 g n cap x w→Calls Tryz.prog 251 #[.slice (some ⟨g,0,none⟩) n cap,.int .i64 mid,.int .i64 en,.int .i64 b,.func (Fn.func 246) #[ov] #[]] w (SoPost w0 g n cap (symL c f mid en b x) w)):=fun x w h=>HR0.out mid en b x w (by omega) (by omega) (by omega) (by omega) h
       clear hp hq hr hs Hk HR0 z1 z2 z3 y1 y2 y3 y4 y5 y6 y7 y8
       go_wp2_with fail
       refine Calls.mono HCa.out ?_
       rintro e w1x ⟨rfl,h1,h2⟩
       have HS:=hid h1
       have HB:=hid (HB.out.trans h2)
       clear h1 h2
       go_wp2_with fail
       refine Calls.mono (HCc.out _ w1x HS.out) ?_
       rintro e w2x ⟨rfl,h1,h2⟩
       have HS:=hid h1
       have HB:=hid (HB.out.trans h2)
       clear h1 h2
       have HR:Hid (SoPost w0 g n cap (symL c (f+1) a m b l) w (.returned (.tuple #[])) w2x):=⟨rfl,by rw [HF.out,symT,EA.out,EB.out,EC.out];exact HS.out,HB.out⟩
       go_wp2_with fail
       refine bodyPost_end (v:=.tuple #[]) (by simp [results,Tryz.results251,go_sem]) rfl ?_
       exact HR.out
      ·have hxa:(st:Int)<(m:Int):=by omega
       have hxb:(m:Int)<(en:Int):=by omega
       have hxd:(st:Int)<(mid:Int):=by omega
       have hxe:(mid:Int)<(en:Int):=by omega
       have hxc:¬ (a:Int)<(st:Int):=by omega
       have hxf:¬ (en:Int)<(b:Int):=by omega
       have EA:Hid (symA m st en l=rotA m (en - st) (m - st) (en - m) l):=by show _=_;rw [symA,if_pos ⟨by omega,by omega⟩]
       have EB:Hid (∀ x,symB (symL c f) a st mid x=x):=fun x=>by rw [symB,if_neg (by omega)]
       have EC:Hid (∀ x,symB (symL c f) mid en b x=x):=fun x=>by rw [symB,if_neg (by omega)]
       have HCa:=hid (rot_any w0 g n cap (.func (Fn.func 246) #[ov] #[]) st m en l wr HS.out (by omega) (by omega) (by omega) hn)
       clear hp hq hr hs Hk HR0 z1 z2 z3 y1 y2 y3 y4 y5 y6 y7 y8
       go_wp2_with fail
       refine Calls.mono HCa.out ?_
       rintro e w1x ⟨rfl,h1,h2⟩
       have HS:=hid h1
       have HB:=hid (HB.out.trans h2)
       clear h1 h2
       have HR:Hid (SoPost w0 g n cap (symL c (f+1) a m b l) w (.returned (.tuple #[])) w1x):=⟨rfl,by rw [HF.out,symT,EA.out,EB.out,EC.out];exact HS.out,HB.out⟩
       go_wp2_with fail
       refine bodyPost_end (v:=.tuple #[]) (by simp [results,Tryz.results251,go_sem]) rfl ?_
       exact HR.out
    ·exact (hq (by omega)).elim
   ·by_cases hq:st<mid
    ·by_cases hr:a<st
     ·have hs:True:=trivial
      have hxa:¬ (st:Int)<(m:Int):=by omega
      have hxb:(m:Int)<(en:Int):=by omega
      have hxd:(st:Int)<(mid:Int):=by omega
      have hxe:¬ (mid:Int)<(en:Int):=by omega
      have hxc:(a:Int)<(st:Int):=by omega
      have EA:Hid (symA m st en l=l):=by show _=_;rw [symA,if_neg (by omega)]
      have EB:Hid (∀ x,symB (symL c f) a st mid x=symL c f a st mid x):=fun x=>by rw [symB,if_pos ⟨by omega,by omega⟩]
      have EC:Hid (∀ x,symB (symL c f) mid en b x=x):=fun x=>by rw [symB,if_neg (by omega)]
      have HCb:Hid (∀ (x:List T) (w:World),SoI w0 g n cap x w→Calls Tryz.prog 251 #[.slice (some ⟨g,0,none⟩) n cap,.int .i64 a,.int .i64 st,.int .i64 mid,.func (Fn.func 246) #[ov] #[]] w (SoPost w0 g n cap (symL c f a st mid x) w)):=fun x w h=>HR0.out a st mid x w (by omega) (by omega) (by omega) (by omega) h
      clear hp hq hr hs Hk HR0 z1 z2 z3 y1 y2 y3 y4 y5 y6 y7 y8
      go_wp2_with fail
      refine Calls.mono (HCb.out _ wr HS.out) ?_
      rintro e w1x ⟨rfl,h1,h2⟩
      have HS:=hid h1
      have HB:=hid (HB.out.trans h2)
      clear h1 h2
      have HR:Hid (SoPost w0 g n cap (symL c (f+1) a m b l) w (.returned (.tuple #[])) w1x):=⟨rfl,by rw [HF.out,symT,EA.out,EB.out,EC.out];exact HS.out,HB.out⟩
      go_wp2_with fail
      refine bodyPost_end (v:=.tuple #[]) (by simp [results,Tryz.results251,go_sem]) rfl ?_
      exact HR.out
     ·have hs:True:=trivial
      have hxa:¬ (st:Int)<(m:Int):=by omega
      have hxb:(m:Int)<(en:Int):=by omega
      have hxd:(st:Int)<(mid:Int):=by omega
      have hxe:¬ (mid:Int)<(en:Int):=by omega
      have hxc:¬ (a:Int)<(st:Int):=by omega
      have EA:Hid (symA m st en l=l):=by show _=_;rw [symA,if_neg (by omega)]
      have EB:Hid (∀ x,symB (symL c f) a st mid x=x):=fun x=>by rw [symB,if_neg (by omega)]
      have EC:Hid (∀ x,symB (symL c f) mid en b x=x):=fun x=>by rw [symB,if_neg (by omega)]
      clear hp hq hr hs Hk HR0 z1 z2 z3 y1 y2 y3 y4 y5 y6 y7 y8
      have HR:Hid (SoPost w0 g n cap (symL c (f+1) a m b l) w (.returned (.tuple #[])) wr):=⟨rfl,by rw [HF.out,symT,EA.out,EB.out,EC.out];exact HS.out,HB.out⟩
      go_wp2_with fail
      refine bodyPost_end (v:=.tuple #[]) (by simp [results,Tryz.results251,go_sem]) rfl ?_
      exact HR.out
    ·have hr:True:=trivial
     have hs:True:=trivial
     have hxa:¬ (st:Int)<(m:Int):=by omega
     have hxc:(a:Int)<(st:Int):=by omega
     have hxb:¬ (m:Int)<(en:Int):=by omega
     have hxd:¬ (st:Int)<(mid:Int):=by omega
     have hxe:¬ (mid:Int)<(en:Int):=by omega
     have EA:Hid (symA m st en l=l):=by show _=_;rw [symA,if_neg (by omega)]
     have EB:Hid (∀ x,symB (symL c f) a st mid x=x):=fun x=>by rw [symB,if_neg (by omega)]
     have EC:Hid (∀ x,symB (symL c f) mid en b x=x):=fun x=>by rw [symB,if_neg (by omega)]
     clear hp hq hr hs Hk HR0 z1 z2 z3 y1 y2 y3 y4 y5 y6 y7 y8
     have HR:Hid (SoPost w0 g n cap (symL c (f+1) a m b l) w (.returned (.tuple #[])) wr):=⟨rfl,by rw [HF.out,symT,EA.out,EB.out,EC.out];exact HS.out,HB.out⟩
     go_wp2_with fail
     refine bodyPost_end (v:=.tuple #[]) (by simp [results,Tryz.results251,go_sem]) rfl ?_
     exact HR.out
theorem sym3_any {Tb:World→Prop} (hL:Lies Tb) (w0:World) (g n cap:Nat) (c:T→T→Int) (ov:Value) (f a m b:Nat) (l:List T) (w:World) (hC:CmSaid Tb w0 ov c) (h:SoI w0 g n cap l w) (hma:a+1<m) (hmb:m+1<b) (hb:b≤n) (hn:n≤1000000) (hT:Tb w0)
  (hR:∀ (a2 m2 b2:Nat) (x:List T) (w:World),a2<m2→m2<b2→b2≤n→b2 - a2<b - a→SoI w0 g n cap x w→Calls Tryz.prog 251 #[.slice (some ⟨g,0,none⟩) n cap,.int .i64 a2,.int .i64 m2,.int .i64 b2,.func (Fn.func 246) #[ov] #[]] w (SoPost w0 g n cap (symL c f a2 m2 b2 x) w)) :
  Calls Tryz.prog 251 #[.slice (some ⟨g,0,none⟩) n cap,.int .i64 a,.int .i64 m,.int .i64 b,.func (Fn.func 246) #[ov] #[]] w (SoPost w0 g n cap (symL c (f+1) a m b l) w):=by
 by_cases hgt:(a+b) / 2<m
 ·exact sym3a_any hL w0 g n cap c ov f a m b l w hC h hma hmb hb hn hT hgt hR
 ·exact sym3b_any hL w0 g n cap c ov f a m b l w hC h hma hmb hb hn hT hgt hR
end Go.Proofs.YtknakfpciccoaabGreatDoor
/- The walk of symMergeCmpFunc, whole; of stableCmpFunc, SortStableFunc. -/
namespace Go.Proofs.YtknakfpciccoaabGreatDoor
open Go.RowKit
theorem sym_any {Tb:World→Prop} (hL:Lies Tb) (w0:World) (g n cap:Nat) (c:T→T→Int) (ov:Value) (hC:CmSaid Tb w0 ov c) (hn:n≤1000000) (hT:Tb w0):∀ (f a m b:Nat) (l:List T) (w:World),SoI w0 g n cap l w→a<m→m<b→b≤n→b - a≤f →
  Calls Tryz.prog 251 #[.slice (some ⟨g,0,none⟩) n cap,.int .i64 a,.int .i64 m,.int .i64 b,.func (Fn.func 246) #[ov] #[]] w (SoPost w0 g n cap (symL c f a m b l) w)
 | 0,a,m,b,l,w,h,h1,h2,h3,h4=>by omega
 | f+1,a,m,b,l,w,h,h1,h2,h3,h4=>by
  by_cases e1:m=a+1
  ·have:=sym1_any hL w0 g n cap c ov a m b l w hC h e1 (by omega) h3 hn (by omega) hT
   rw [symL]
   dsimp only
   rw [if_pos e1]
   exact this
  ·by_cases e2:b=m+1
   ·have:=sym2_any hL w0 g n cap c ov a m b l w hC h (by omega) e2 h3 hn hT
    rw [symL]
    dsimp only
    rw [if_neg e1,if_pos e2]
    exact this
   ·exact sym3_any hL w0 g n cap c ov f a m b l w hC h (by omega) (by omega) h3 hn hT (fun a2 m2 b2 x w q1 q2 q3 q4 q5=>sym_any hL w0 g n cap c ov hC hn hT f a2 m2 b2 x w q5 q1 q2 q3 (by omega))
def blkL (c:T→T→Int) (n:Nat):Nat→Nat→Nat→List T→List T
 | 0,_,_,l=>l
 | f+1,a,b,l=>if b≤n then blkL c n f b (b+20) (insL c a (b - (a+1)) (a+1) l) else insL c a (n - (a+1)) (a+1) l
def mrgL (c:T→T→Int) (n s:Nat):Nat→Nat→Nat→List T→List T
 | 0,_,_,l=>l
 | f+1,a,b,l=>if b≤n then mrgL c n s f b (b+2*s) (symL c n a (a+s) b l) else if a+s<n then symL c n a (a+s) n l else l
def stbL (c:T→T→Int) (n:Nat):Nat→Nat→List T→List T
 | 0,_,l=>l
 | f+1,s,l=>if s<n then stbL c n f (s*2) (mrgL c n s (n+1) 0 (2*s) l) else l
def sortL (c:T→T→Int) (n:Nat) (l:List T):List T:=stbL c n (n+1) 20 (blkL c n (n+1) 0 20 l)
set_option maxHeartbeats 8000000 in
set_option maxRecDepth 100000 in
theorem stb_any {Tb:World→Prop} (hL:Lies Tb) (w0:World) (g n cap:Nat) (c:T→T→Int) (ov:Value) (l:List T) (w:World) (hC:CmSaid Tb w0 ov c) (h:SoI w0 g n cap l w) (hn:n≤1000000) (hT:Tb w0) :
  Calls Tryz.prog 249 #[.slice (some ⟨g,0,none⟩) n cap,.int .i64 n,.func (Fn.func 246) #[ov] #[]] w (SoPost w0 g n cap (sortL c n l) w):=by
 have HI:=hid h
 have HCi:Hid (∀ (a b:Nat) (l:List T) (w:World),SoI w0 g n cap l w→a≤b→b≤n→Calls Tryz.prog 250 #[.slice (some ⟨g,0,none⟩) n cap,.int .i64 a,.int .i64 b,.func (Fn.func 246) #[ov] #[]] w (SoPost w0 g n cap (insL c a (b - (a+1)) (a+1) l) w)):=fun a b l w h1 h2 h3=>ins_any hL w0 g n cap c ov a b l w hC h1 h2 h3 hn hT
 have HCs:Hid (∀ (a m b:Nat) (l:List T) (w:World),SoI w0 g n cap l w→a<m→m<b→b≤n→Calls Tryz.prog 251 #[.slice (some ⟨g,0,none⟩) n cap,.int .i64 a,.int .i64 m,.int .i64 b,.func (Fn.func 246) #[ov] #[]] w (SoPost w0 g n cap (symL c n a m b l) w)):=fun a m b l w h1 h2 h3 h4=>sym_any hL w0 g n cap c ov hC hn hT n a m b l w h1 h2 h3 h4 (by omega)
 clear hC h hT hL
 go_enter Tryz.func249,Tryz.ntmps249
 go_wp2_with fail
 go_loopg [7,8] n (fun gh aa bb wr=>∃ (a b q:Nat) (l':List T),gh=n - a∧a+20=b∧a≤n∧n - a+1≤q∧aa=.int .i64 a∧bb=.int .i64 b∧Hid (SoI w0 g n cap l' wr)∧Hid (Below w0.heap.size w wr)∧Hid (blkL c n (n+1) 0 20 l=blkL c n q a b l'))
 case atStart=>exact ⟨0,20,n+1,l,by omega,rfl,Nat.zero_le _,by omega,rfl,rfl,HI,Below.refl _ _,rfl⟩
 case round =>
  clear HI
  obtain ⟨a,b,q,l',rfl,hab,han,hqn,rfl,rfl,HS,HB,HE⟩:=hrel
  obtain ⟨q,rfl⟩:∃ q',q=q'+1:=⟨q - 1,by omega⟩
  by_cases hlt:b≤n
  ·have hlti:(b:Int)≤(n:Int):=by omega
   have HCa:=hid (HCi.out a b l' wr HS.out (by omega) hlt)
   have HE3:Hid (blkL c n (n+1) 0 20 l=blkL c n q b (b+20) (insL c a (b - (a+1)) (a+1) l')):=by show _=_;rw [HE.out,blkL,if_pos hlt]
   clear HE HS
   go_wp2_with fail
   refine Calls.mono HCa.out ?_
   rintro e w1x ⟨rfl,h1,h2⟩
   have HS:=hid h1
   have HB:=hid (HB.out.trans h2)
   clear h1 h2
   go_wp2_with fail
   go_roundg (n - b)
   case rel=>exact ⟨b,b+20,q,_,rfl,rfl,hlt,by omega,rfl,by go_num,HS,HB,HE3⟩
   case measure=>omega
  ·have hlti:¬ (b:Int)≤(n:Int):=by omega
   have HCa:=hid (HCi.out a n l' wr HS.out han (Nat.le_refl _))
   have HE3:Hid (blkL c n (n+1) 0 20 l=insL c a (n - (a+1)) (a+1) l'):=by show _=_;rw [HE.out,blkL,if_neg hlt]
   clear HE HS
   go_wp2_with fail
   refine Calls.mono HCa.out ?_
   rintro e w1x ⟨rfl,h1,h2⟩
   rw [← HE3.out] at h1
   have HI:=hid h1
   have HB:=hid (HB.out.trans h2)
   clear h1 h2 HE3 HCa hlt hlti hab han hqn
   obtain ⟨lb,hlb⟩:∃ lb,blkL c n (n+1) 0 20 l=lb:=⟨_,rfl⟩
   rw [hlb] at HI
   have Hlb:=hid hlb
   clear hlb
   go_wp2_with fail
   go_loopg [6] (n - 20) (fun gh ss wr=>∃ (s q:Nat) (l':List T),gh=n - s∧20≤s∧s≤2000000∧n+1≤q+s∧0<q∧ss=.int .i64 s∧Hid (SoI w0 g n cap l' wr)∧Hid (Below w0.heap.size w wr)∧Hid (stbL c n (n+1) 20 lb=stbL c n q s l'))
   case atStart=>exact ⟨20,n+1,lb,by omega,Nat.le_refl _,by omega,by omega,by omega,rfl,HI,HB,rfl⟩
   case round =>
    clear HI HB
    obtain ⟨s,q,l',rfl,hs1,hs2,hqn,hq0,rfl,HS,HB,HE⟩:=hrel
    obtain ⟨q,rfl⟩:∃ q',q=q'+1:=⟨q - 1,by omega⟩
    by_cases hsn:s<n
    ·have hsi:(s:Int)<(n:Int):=by omega
     obtain ⟨ds,hds⟩:∃ ds,2*s=ds:=⟨_,rfl⟩
     have hwd:IntKind.i64.wrap (2*(s:Int))=(ds:Int):=by rw [IntKind.wrap_i64];omega
     have HE4:Hid (stbL c n (n+1) 20 lb=stbL c n q (s*2) (mrgL c n s (n+1) 0 ds l')):=by show _=_;rw [HE.out,stbL,if_pos hsn,hds]
     clear HE
     have HI:=HS
     go_wp2_with fail
     go_loopg [7,8] n (fun gh aa bb wr=>∃ (a b q:Nat) (l2:List T),gh=n - a∧a+ds=b∧a≤n∧n - a+1≤q∧aa=.int .i64 a∧bb=.int .i64 b∧Hid (SoI w0 g n cap l2 wr)∧Hid (Below w0.heap.size w wr)∧Hid (mrgL c n s (n+1) 0 ds l'=mrgL c n s q a b l2))
     case atStart=>exact ⟨0,ds,n+1,l',by omega,by omega,Nat.zero_le _,by omega,rfl,rfl,HI,HB,rfl⟩
     case round =>
      clear HI HS HB
      obtain ⟨a,b,q2,l2,rfl,hab,han,hqn2,rfl,rfl,HS,HB,HE⟩:=hrel
      obtain ⟨q2,rfl⟩:∃ q',q2=q'+1:=⟨q2 - 1,by omega⟩
      obtain ⟨aq,has⟩:∃ x,a+s=x:=⟨_,rfl⟩
      have hwa:IntKind.i64.wrap ((a:Int)+(s:Int))=(aq:Int):=by rw [IntKind.wrap_i64];omega
      by_cases hlt:b≤n
      ·have hlti:(b:Int)≤(n:Int):=by omega
       have HCa:=hid (HCs.out a aq b l2 wr HS.out (by omega) (by omega) hlt)
       have HE3:Hid (mrgL c n s (n+1) 0 ds l'=mrgL c n s q2 b (b+ds) (symL c n a aq b l2)):=by show _=_;rw [HE.out,mrgL,if_pos hlt,hds,has]
       have hwb:IntKind.i64.wrap ((b:Int)+(ds:Int))=((b+ds:Nat):Int):=by rw [IntKind.wrap_i64];omega
       obtain ⟨bd,hbd⟩:∃ x,b+ds=x:=⟨_,rfl⟩
       rw [hbd] at HE3 hwb
       clear HE HS
       have Hz:Hid (a+ds=b∧2*s=ds∧a+s=aq):=⟨hab,hds,has⟩
       clear hab hds has
       go_wp2_with fail
       refine Calls.mono HCa.out ?_
       rintro e w1x ⟨rfl,h1,h2⟩
       have HS:=hid h1
       have HB:=hid (HB.out.trans h2)
       clear h1 h2
       go_wp2_with fail
       go_roundg (n - b)
       case rel=>exact ⟨b,bd,q2,_,rfl,hbd,hlt,by have:=Hz.out;omega,rfl,rfl,HS,HB,HE3⟩
       case measure=>have:=Hz.out;omega
      ·have hlti:¬ (b:Int)≤(n:Int):=by omega
       by_cases hm:aq<n
       ·have hmi:(aq:Int)<(n:Int):=by omega
        have HCa:=hid (HCs.out a aq n l2 wr HS.out (by omega) hm (Nat.le_refl _))
        have HE5:Hid (stbL c n (n+1) 20 lb=stbL c n q (s*2) (symL c n a aq n l2)):=by show _=_;rw [HE4.out,HE.out,mrgL,if_neg hlt,has,if_pos hm]
        have hws:IntKind.i64.wrap ((s:Int)*2)=(ds:Int):=by rw [IntKind.wrap_i64];omega
        have Hz:Hid (a+ds=b∧2*s=ds∧a+s=aq):=⟨hab,hds,has⟩
        clear HE HE4 HS hab hds has
        go_wp2_with fail
        refine Calls.mono HCa.out ?_
        rintro e w1x ⟨rfl,h1,h2⟩
        have HS:=hid h1
        have HB:=hid (HB.out.trans h2)
        clear h1 h2
        go_wp2_with fail
        have HE6:Hid (stbL c n (n+1) 20 lb=stbL c n q ds (symL c n a aq n l2)):=by show _=_;rw [HE5.out,Nat.mul_comm s 2,Hz.out.2.1]
        go_roundg (n - ds)
        case rel=>exact ⟨ds,q,_,rfl,by have:=Hz.out;omega,by have:=Hz.out;omega,by have:=Hz.out;omega,by omega,rfl,HS,HB,HE6⟩
        case measure=>have:=Hz.out;omega
       ·have hmi:¬ (aq:Int)<(n:Int):=by omega
        have HE5:Hid (stbL c n (n+1) 20 lb=stbL c n q (s*2) l2):=by show _=_;rw [HE4.out,HE.out,mrgL,if_neg hlt,has,if_neg hm]
        have hws:IntKind.i64.wrap ((s:Int)*2)=(ds:Int):=by rw [IntKind.wrap_i64];omega
        have Hz:Hid (a+ds=b∧2*s=ds∧a+s=aq):=⟨hab,hds,has⟩
        clear HE HE4 hab hds has
        go_wp2_with fail
        have HE6:Hid (stbL c n (n+1) 20 lb=stbL c n q ds l2):=by show _=_;rw [HE5.out,Nat.mul_comm s 2,Hz.out.2.1]
        go_roundg (n - ds)
        case rel=>exact ⟨ds,q,_,rfl,by have:=Hz.out;omega,by have:=Hz.out;omega,by have:=Hz.out;omega,by omega,rfl,HS,HB,HE6⟩
        case measure=>have:=Hz.out;omega
    ·have hsi:¬ (s:Int)<(n:Int):=by omega
     have HF:Hid (stbL c n (n+1) 20 lb=l'):=by show _=_;rw [HE.out,stbL,if_neg hsn]
     have HR:Hid (SoPost w0 g n cap (stbL c n (n+1) 20 lb) w (.returned (.tuple #[])) wr):=⟨rfl,by rw [HF.out];exact HS.out,HB.out⟩
     go_wp2_with fail
     refine bodyPost_end (v:=.tuple #[]) (by simp [results,Tryz.results249,go_sem]) rfl ?_
     rw [sortL,Hlb.out]
     exact HR.out
theorem sstb_any {Tb:World→Prop} (hL:Lies Tb) (w0:World) (g n cap:Nat) (c:T→T→Int) (ov:Value) (l:List T) (w:World) (hC:CmSaid Tb w0 ov c) (h:SoI w0 g n cap l w) (hn:n≤1000000) (hT:Tb w0) :
  Calls Tryz.prog 248 #[.slice (some ⟨g,0,none⟩) n cap,.func (Fn.func 246) #[ov] #[]] w (SoPost w0 g n cap (sortL c n l) w):=by
 have HCa:=hid (stb_any hL w0 g n cap c ov l w hC h hn hT)
 clear hC h hT hL
 go_enter Tryz.func248,Tryz.ntmps248
 go_wp2_with fail
 refine Calls.mono HCa.out ?_
 rintro e w1x ⟨rfl,h1,h2⟩
 have HR:Hid (SoPost w0 g n cap (sortL c n l) w (.returned (.tuple #[])) w1x):=⟨rfl,h1,h2⟩
 clear h1 h2
 go_wp2_with fail
 refine bodyPost_end (v:=.tuple #[]) (by simp [results,Tryz.results248,go_sem]) rfl ?_
 exact HR.out
end Go.Proofs.YtknakfpciccoaabGreatDoor
/- $sort is a stage. -/
namespace Go.Proofs.YtknakfpciccoaabGreatDoor
open Go.RowKit
def srtS (os:List (List ByteArray×Int)) (l:List T):(Nat×Int)⊕List T:=.inr (sortL (cmpO os) l.length l)
theorem sortL_nil (c:T→T→Int):sortL c 0 []=[]:=rfl
theorem SoI.docs {w0:World} {g n cap:Nat} {l:List T} {w:World} (h:SoI w0 g n cap l w) (hn:n≤1000000):DocsAt w (.slice (some ⟨g,0,none⟩) n cap) l:=by
 obtain ⟨xs,hr,ha⟩:=h.row
 have hx:xs.length=n*5:=hr.1
 have hl:=h.len
 rcases hr.2 with ⟨h0,_⟩ | ⟨g',cap',cur,e,hb0,hg,hnc,hcm,rest⟩
 ·cases h0
 ·simp only [Value.slice.injEq,Option.some.injEq,Addr.mk.injEq,and_true,true_and] at e
  obtain ⟨rfl,rfl⟩:=e
  refine ⟨_,_,by rw [hl],by omega,by omega,by unfold maxLen at hcm;omega,fun i hi=>?_,fun i hi=>h.ok _ (List.getElem_mem hi)⟩
  rw [nL_mk] at hi
  have hc:∀ j,j<5→w.cell? ⟨g,i*5+j,none⟩=some (cx xs (i*5+j)):=fun j hj=>row_cell hr (cx_some (by omega))
  refine ⟨g,0,cx xs (i*5),cx xs (i*5+1),cx xs (i*5+2),cx xs (i*5+3),cx xs (i*5+4),rfl,(Array.getElem?_eq_some_iff.1 hg).1,(by rw [Nat.zero_add];exact hc 0 (by omega)),(by rw [Nat.zero_add];exact hc 1 (by omega)),(by rw [Nat.zero_add];exact hc 2 (by omega)),(by rw [Nat.zero_add];exact hc 3 (by omega)),(by rw [Nat.zero_add];exact hc 4 (by omega)),?_⟩
  rw [elt_docs l hi]
  exact (ha i hi).keep h.low
set_option maxHeartbeats 4000000 in
set_option maxRecDepth 100000 in
theorem ins0_any (dv cf:Value) (w:World) :
  Calls Tryz.prog 250 #[dv,.int .i64 0,.int .i64 0,cf] w fun e w'=>e=.returned (.tuple #[])∧w'=w:=by
 go_enter Tryz.func250,Tryz.ntmps250
 go_wp2_with fail
 go_loopg [8] 0 (fun gh ii wr=>gh=0∧ii=.int .i64 1∧wr=w)
 case atStart=>exact ⟨rfl,by go_num,rfl⟩
 case round =>
  obtain ⟨rfl,rfl,rfl⟩:=hrel
  go_wp2_with fail
  refine bodyPost_end (v:=.tuple #[]) (by simp [results,Tryz.results250,go_sem]) rfl ?_
  exact ⟨rfl,rfl⟩
set_option maxHeartbeats 4000000 in
set_option maxRecDepth 100000 in
theorem stb0_any (dv cf:Value) (w:World) :
  Calls Tryz.prog 249 #[dv,.int .i64 0,cf] w fun e w'=>e=.returned (.tuple #[])∧w'=w:=by
 have HC:=hid (ins0_any dv cf w)
 go_enter Tryz.func249,Tryz.ntmps249
 go_wp2_with fail
 go_loopg [7,8] 0 (fun gh aa bb wr=>gh=0∧aa=.int .i64 0∧bb=.int .i64 20∧wr=w)
 case atStart=>exact ⟨rfl,rfl,rfl,rfl⟩
 case round =>
  obtain ⟨rfl,rfl,rfl,rfl⟩:=hrel
  go_wp2_with fail
  refine Calls.mono HC.out ?_
  rintro e w1x ⟨rfl,rfl⟩
  go_wp2_with fail
  go_loopg [6] 0 (fun gh ss wr=>gh=0∧ss=.int .i64 20∧wr=w1x)
  case atStart=>exact ⟨rfl,rfl,rfl⟩
  case round =>
   obtain ⟨rfl,rfl,rfl⟩:=hrel
   go_wp2_with fail
   refine bodyPost_end (v:=.tuple #[]) (by simp [results,Tryz.results249,go_sem]) rfl ?_
   exact ⟨rfl,rfl⟩
set_option maxHeartbeats 4000000 in
set_option maxRecDepth 100000 in
theorem sstb0_any (cf:Value) (w:World) :
  Calls Tryz.prog 248 #[.slice none 0 0,cf] w fun e w'=>e=.returned (.tuple #[])∧w'=w:=by
 have HC:=hid (stb0_any (.slice none 0 0) cf w)
 go_enter Tryz.func248,Tryz.ntmps248
 go_wp2_with fail
 refine Calls.mono HC.out ?_
 rintro e w1x ⟨rfl,rfl⟩
 go_wp2_with fail
 refine bodyPost_end (v:=.tuple #[]) (by simp [results,Tryz.results248,go_sem]) rfl ?_
 exact ⟨rfl,rfl⟩
set_option maxHeartbeats 8000000 in
set_option maxRecDepth 100000 in
theorem clone0_any (A:Addr) (c:Nat) (w:World) :
  Calls Tryz.prog 234 #[.slice (some A) 0 c] w fun e w'=>Below w.heap.size w w'∧∃ v zs,e=.returned v∧w'.ownsRow w.heap.size 36 5 v 0 zs:=by
 obtain ⟨iV,hiV,zV0,zV1,zV2⟩:=info_parts infoV
 have HB1:Hid (Below w.heap.size w (w.alloc (.cells #[] 36))):=(Below.refl _ _).alloc (Nat.le_refl _) _
 have HO:Hid ((w.alloc (.cells #[] 36)).ownsRow w.heap.size 36 5 (.slice (some ⟨w.heap.size,0,none⟩) 0 0) 0 []):=by
  have:=World.ownsRow_lit (base:=w.heap.size) (e:=36) (size:=5) w #[] 0 (Nat.le_refl _) (by unfold maxLen;omega) rfl
  have h5:(w.alloc (.cells #[] 36)).ownsRow w.heap.size 36 5 (.slice (some ⟨w.heap.size,0,none⟩) 0 0) 0 []:=by simpa using this
  exact h5
 have HS:Hid (Src Tryz.prog 5 34 (.slice (some A) 0 c) 0 [] (w.alloc (.cells #[] 36))):=Src.ofSlice _ Tryz.underlying34 A 0 c [] rfl (fun j u hu=>by simp at hu) (fun u hu=>by cases hu)
 have heq:(binOp .eql 34 (.slice (some A) 0 c) (.slice none 0 0)).run Tryz.prog w=.ok (.bool false) w:=by kernel_rfl
 go_enter Tryz.func234,Tryz.ntmps234
 go_wp2_with (at_builtin;refine wpList_append_src _ rfl (.tmp 5) (.tmp 6) 34 34 rfl w.heap.size 36 iV _ 5 80 Tryz.underlying34 hiV zV0 zV1 zV2 rfl (.slice (some ⟨w.heap.size,0,none⟩) 0 0) 0 [] rfl HO.out (.slice (some A) 0 c) 0 [] rfl HS.out (by unfold maxLen;omega) (by omega) (by simp) ?_;intro v' w6 hO6 hG6 hat6)
 have H6:=hid hO6
 have HB6:=hid (below_grown HB1.out HO.out (Nat.le_refl _) (by simp) hG6)
 clear hO6 hG6 hat6
 go_wp2_with fail
 go_ret
 exact ⟨HB6.out,v',_,rfl,H6.out⟩
set_option maxHeartbeats 4000000 in
set_option maxRecDepth 100000 in
theorem cloneN_any (c:Nat) (w:World) :
  Calls Tryz.prog 234 #[.slice none 0 c] w fun e w'=>e=.returned (.slice none 0 0)∧w'=w:=by
 have heq:(binOp .eql 34 (.slice none 0 c) (.slice none 0 0)).run Tryz.prog w=.ok (.bool true) w:=by kernel_rfl
 go_enter Tryz.func234,Tryz.ntmps234
 go_wp2_with fail
 go_ret
 exact ⟨rfl,rfl⟩
theorem cloneD_any (dv:Value) (l:List T) (w:World) (hd:DocsAt w dv l) :
  Calls Tryz.prog 234 #[dv] w fun e w'=>Below w.heap.size w w'∧((∃ g cap,e=.returned (.slice (some ⟨g,0,none⟩) l.length cap)∧SoI w g l.length cap l w')∨(l=[]∧e=.returned (.slice none 0 0))):=by
 obtain ⟨La,Lc,rfl,h1,h2,h3,h4,h5⟩:=hd
 cases l with
 | nil =>
  cases La with
  | none =>
   refine (cloneN_any Lc w).mono ?_
   rintro e w' ⟨rfl,rfl⟩
   exact ⟨Below.refl _ _,.inr ⟨rfl,rfl⟩⟩
  | some A =>
   refine (clone0_any A Lc w).mono ?_
   rintro e w' ⟨hb,v,zs,rfl,ho⟩
   refine ⟨hb,?_⟩
   rcases ho.2 with ⟨rfl,h0⟩ | ⟨g,cap,cur,rfl,rest⟩
   ·exact .inr ⟨rfl,rfl⟩
   ·exact .inl ⟨g,cap,rfl,⟨zs,ho,fun i hi=>absurd hi (Nat.not_lt_zero i)⟩,rfl,hb,fun t ht=>by cases ht⟩
 | cons d r =>
  obtain ⟨b,o,c0,c1,c2,c3,c4,rfl,hbl,_⟩:=h4 0 (by rw [nL_mk];simp)
  refine (cloneV_any 13 b o (d::r).length Lc _ w h4 (nL_mk ..) h1 hbl).mono ?_
  rintro e w' ⟨hb,v,zs,rfl,ho,hz⟩
  refine ⟨hb,.inl ?_⟩
  rcases ho.2 with ⟨rfl,h0⟩ | ⟨g,cap,cur,rfl,rest⟩
  ·cases h0
  ·exact ⟨g,cap,rfl,⟨zs,ho,fun i hi=>by have:=hz i hi;rwa [elt_docs _ hi] at this⟩,rfl,hb,fun t ht=>by obtain ⟨i,hi,rfl⟩:=List.mem_iff_getElem.mp ht;exact h5 i hi⟩
set_option maxHeartbeats 4000000 in
set_option maxRecDepth 100000 in
theorem orun_any {Tb:World→Prop} (hA:AtoiSaid Tb) (hI:ItoaSaid Tb) (hL:Lies Tb) (ov:Value) (os:List (List ByteArray×Int)) (dv:Value) (l:List T) (w:World) (ho:OrdAt w ov os) (hd:DocsAt w dv l) (hT:Tb w) :
  Calls Tryz.prog 247 #[ov,dv] w (StPost (srtS os) l w):=by
 have hC:CmSaid Tb w ov (cmpO os):=fun a b x y w' hb ha hb2 ka kb hT'=>ocmp_any hA hI hL ov os a b x y w w' hb ho ha hb2 ka kb hT'
 have HC:=hid (cloneD_any dv l w hd)
 have hn:l.length≤1000000:=by obtain ⟨_,_,_,h1,_⟩:=hd;exact h1
 have HS:Hid (∀ (g cap:Nat) (w':World),SoI w g l.length cap l w'→Calls Tryz.prog 248 #[.slice (some ⟨g,0,none⟩) l.length cap,.func (Fn.func 246) #[ov] #[]] w' (SoPost w g l.length cap (sortL (cmpO os) l.length l) w')):=fun g cap w' h=>sstb_any hL w g l.length cap (cmpO os) ov l w' hC h hn hT
 have HF:Hid (srtS os l=.inr (sortL (cmpO os) l.length l)):=rfl
 have Hz:Hid (l=[]→sortL (cmpO os) l.length l=[]):=fun e=>by rw [e];exact sortL_nil _
 clear hC ho hd hA hI hL hT
 generalize sortL (cmpO os) l.length l=sl at HS HF Hz
 have Hn:=hid hn
 clear hn
 obtain ⟨n,hn⟩:∃ n,l.length=n:=⟨_,rfl⟩
 rw [hn] at HC HS Hn
 clear hn
 go_enter Tryz.func247,Tryz.ntmps247
 go_wp2_with fail
 refine HC.out.mono ?_
 rintro e w1 ⟨hb,hcase⟩
 have HB:=hid hb
 clear hb
 rcases hcase with ⟨g,cap,rfl,hs⟩ | ⟨hl,rfl⟩
 ·have HC2:=hid (HS.out g cap w1 hs)
  clear hs HC HS
  go_wp2_with fail
  refine HC2.out.mono ?_
  rintro e w2 ⟨rfl,hs2,hb2⟩
  have HB2:=hid (HB.out.trans hb2)
  have HD:=hid (hs2.docs Hn.out)
  clear hs2 hb2 HC2
  go_wp2_with fail
  refine bodyPost_ret (v:=.tuple #[.slice (some ⟨g,0,none⟩) n cap,.int .i64 0,.int .i64 0]) (by simp [results,Tryz.results247,go_sem, *]) rfl ?_
  exact ⟨HB2.out,.inr ⟨_,_,HF.out,rfl,HD.out⟩⟩
 ·have Hl:=hid hl
  clear hl HC HS
  have HC2:=hid (sstb0_any (.func (Fn.func 246) #[ov] #[]) w1)
  go_wp2_with fail
  refine HC2.out.mono ?_
  rintro e w2 ⟨rfl,rfl⟩
  clear HC2
  go_wp2_with fail
  refine bodyPost_ret (v:=.tuple #[.slice none 0 0,.int .i64 0,.int .i64 0]) (by simp [results,Tryz.results247,go_sem, *]) rfl ?_
  refine ⟨HB.out,.inr ⟨_,_,HF.out,rfl,?_⟩⟩
  rw [Hz.out Hl.out]
  exact ⟨none,0,rfl,by simp,by simp,by omega,fun i hi=>absurd hi (Nat.not_lt_zero i),fun i hi=>absurd hi (Nat.not_lt_zero i)⟩
theorem meth_sort (p:Value) (w:World):(method 419 181 p "sheaf/pipe.run").run Tryz.prog w=.ok (247,p) w:=by kernel_rfl
set_option maxHeartbeats 4000000 in
set_option maxRecDepth 100000 in
theorem sort_ok {Tb:World→Prop} (hA:AtoiSaid Tb) (hI:ItoaSaid Tb) (hL:Lies Tb) {w:World} {ov:Value} {os:List (List ByteArray×Int)} (h:OrdAt w ov os):StageOk Tb w (.iface 181 ov) (srtS os) :=
 ⟨_,_,_,rfl,meth_sort _,fun _ _=>rfl,fun wr dv l hb hd hT=>orun_any hA hI hL ov os dv l wr (h.keep hb) hd hT⟩
end Go.Proofs.YtknakfpciccoaabGreatDoor
