import Derived.Test.YtknakfpciccoaabGreatDoorZL35
import Derived.Test.YtknakfpciccoaabGreatDoorZL36
import Derived.Test.YtknakfpciccoaabGreatDoorZL37
import Derived.BigQuiet
import Derived.Test.YtknakfpciccoaabGreatDoorZL30
import Derived.Test.YtknakfpciccoaabGreatDoorZL31
import Derived.Test.YtknakfpciccoaabGreatDoorZL27
/- The walk of filled. -/
set_option maxHeartbeats 8000000
set_option maxRecDepth 100000
namespace Go.Proofs.YtknakfpciccoaabGreatDoor
open Go.RowKit
theorem OG {Tb:World->Prop} (hA:bP Tb) (v:Value) (n:Nat) (w:World) (hv:Xl w v n) (hT:Tb w) :
  Calls Tryz.prog 7 #[v] w fun e w'=>∃ p l,e=.returned (.tuple #[.pointer (some ⟨p,0,none⟩),.int .i64 (l.length:Nat)])/\Below w.heap.size w w'/\kI l/\l.length<=30/\NG w.heap.size w' p 2 (vP (some l) (some l)):=by
 obtain ⟨A,cp,rfl,hn,hr⟩:=hv;have HR:=aj hr;have HA:=aj hA;have HN:=aj (Zc w);have HT:Hid (∀ w':World,Below w.heap.size w w'->Tb w'):=fun w' hb=>hA.lies w hT w w' hT hb;have HD:Hid (∀ (id c d:Int) (w:World),0<=id->id<30->-9223372036854775808<=c->c<=9223372036854775807->-9223372036854775808<=d->d<=9223372036854775807->Tb w->Calls Tryz.prog 20 #[.int .i64 id,.int .i64 c,.int .i64 d] w fun e w'=>Below w.heap.size w w'/\∃ i o,i<36/\(∀ j,o=some j->j<36)/\e=.returned (.string (vw id i o))):=fun id c d w h1 h2 h3 h4 h5 h6 h7=>GN hA.itoa hA.lies id c d w h1 h2 h3 h4 h5 h6 h7;have HS0:=aj (NG.new w);have HB0:Hid (Below w.heap.size w ((w.alloc (.map #[] 0)).alloc (.cells #[.map (some w.heap.size)] 76))):=(aQ _ _).alloc (by simp) _;clear hr hA hT;go_in;go_wp2_with fail;refine HN.out.mono ?_;rintro e w1 ⟨rfl,rfl⟩;generalize (w.alloc (.map #[] 0)).alloc (.cells #[.map (some w.heap.size)] 76)=w1 at HS0 HB0 ⊢;generalize w.heap.size+1=p at HS0 ⊢;have HC1:=aj (EY HS0.out nX (by decide) (by omega) (by kernel_rfl) rfl);clear HN;go_wp2_with fail;refine HC1.out.mono ?_;rintro e w2 ⟨rfl,b2,s2⟩;have HB2:=aj (HB0.out.trans b2);have LH:=aj (EY s2 nY (by decide) (by omega) (by kernel_rfl) rfl);clear HC1 b2 s2 HS0 HB0;go_wp2_with fail;refine LH.out.mono ?_;rintro e w3 ⟨rfl,b3,s3⟩;rw [ZX] at s3;have HB3:=aj (HB2.out.trans b3);have D7:=aj s3;clear LH b3 s3 HB2;go_wp2_with fail
 go_loopg [7,8] 30 (fun g a i wr=>∃ (k q:Nat),g=30 - k/\k<=30/\Hid (q=2*k)/\a=.int .i64 k/\i=.int .i64 q/\Hid (Below w.heap.size w wr)/\Hid (∃ l:List T,l.length=k/\kI l/\NG w.heap.size wr p 2 (vP (some l) (some l))))
 case atStart=>exact ⟨0,0,rfl,Nat.zero_le _,rfl,rfl,rfl,HB3,[],rfl,kI.nil,D7.out⟩
 case round =>
  clear D7 HB3;obtain ⟨k,q,rfl,hk,HQ,rfl,rfl,HB,HL⟩:=hrel;have hq:=HQ.out;by_cases hlt:q+1<n/\k<30
  ·obtain ⟨h1,h2⟩:=hlt;obtain ⟨b,o,z,hAe,hbl,c1,z0,z1⟩:=HR.out q (by omega);obtain ⟨b',o',z',ags,_,c2,z0',z1'⟩:=HR.out (q+1) (by omega);subst hAe;simp only [Option.some.injEq,Addr.mk.injEq,and_true] at ags;obtain ⟨rfl,rfl⟩:=ags
   have HSw:Hid (∀ w5:World,Below wr.heap.size wr w5->(w5.cell? ⟨b,o+q,none⟩=some (.int .i64 z)/\w5.cell? ⟨b,o+(q+1),none⟩=some (.int .i64 z'))):=by
    intro w5 hh;have hbw:b<wr.heap.size:=Nat.lt_of_lt_of_le hbl HB.out.size;exact ⟨(hh.cell (p:=⟨b,_,none⟩) hbw).trans ((HB.out.cell (p:=⟨b,_,none⟩) hbl).trans c1),(hh.cell (p:=⟨b,_,none⟩) hbw).trans ((HB.out.cell (p:=⟨b,_,none⟩) hbl).trans c2)⟩
   have pF:=aj (HSw.out wr.drew (ak wr));have HDk:Hid (∀ w5:World,Below wr.heap.size wr w5->Calls Tryz.prog 20 #[.int .i64 (k:Nat),.int .i64 z,.int .i64 z'] w5 fun e w'=>Below w5.heap.size w5 w'/\∃ i o,i<36/\(∀ j,o=some j->j<36)/\e=.returned (.string (vw (k:Nat) i o))):=fun w5 hh=>HD.out k z z' w5 (by omega) (by omega) z0 z1 z0' z1' (HT.out _ (HB.out.trans (hh.mono HB.out.size)));have x1:(q:Int)+1<(n:Int):=by omega
   have x2:(k:Int)<30:=by omega
   have hw1:IntKind.i64.wrap ((q:Int)+1)=(q:Int)+1:=by rw [IntKind.wrap_i64];omega
   have y1:(q:Int)<(n:Int):=by omega
   have y2:(0:Int)<=(q:Int)+1:=by omega
   have y3:((q:Int)+1).toNat=q+1:=by omega
   have HX:=aj (And.intro h1 h2);clear c1 c2 z0 z1 z0' z1' h1 h2 hq hbl;go_wp2_with fail;go_region_held3 (fun wx=>wx.cell? ⟨b,o+q,none⟩=some (.int .i64 z)/\wx.cell? ⟨b,o+(q+1),none⟩=some (.int .i64 z')) (first | exact rV | exact pF.out) ((go_at_call 20;refine (HDk.out _ (ak wr)).mono ?_;rintro e5 w5 ⟨hb5,di,dq,hdi,hdq,rfl⟩;have rV:=HSw.out _ ((ak wr).trans hb5)));have eU:=aj (HB.out.trans (((ak wr).trans hb5).mono HB.out.size));have hkq:(k:Int)<30:=x2;obtain ⟨l,hll,hdo,hst⟩:=HL.out;have HDo:=aj hdo;have Hll:=aj hll;have hz:=ER (id:=(k:Int)) (by omega) (by omega) hdi hdq;have Kz:=aj (ES (id:=(k:Int)) (by omega) (by omega) hdi hdq);have HIn:=aj (acj (id:=(k:Int)) (by omega) (by omega) hdi hdq);have HDi:=aj (And.intro hdi hdq);generalize vw (k:Int) di dq=sd at *;have C8:=aj (hst.keep ((ak wr).trans hb5));have HFr:Hid (cZ (jP (RV (tJ sd))) (aX 5 0 ByteArray.empty l []) l.length=false):=by show _=_;rw [Kz.out.2,<- hll];exact hdo.fresh di dq
   have HI1:=aj (EZ HA.out C8.out nX sd l (by decide) (by omega) (Xm _ _) HIn.out HFr.out (by omega) (HT.out _ eU.out));clear hb5 rV HSw pF HDk hdo hst hll hdi hdq HL x1 y1 y2 y3 hw1 HB;go_wp2_with fail;refine HI1.out.mono ?_;rintro e6 w6 ⟨rfl,b6,s6⟩;rw [Xn] at s6;have iq:=aj (eU.out.trans b6);have HI2:=aj (EZ HA.out s6 nY sd l (by decide) (by omega) (agf _ _) HIn.out HFr.out (by have:=Hll.out;omega) (HT.out _ iq.out));clear b6 s6 HI1 C8 eU;go_wp2_with fail;refine HI2.out.mono ?_;rintro e7 w7 ⟨rfl,b7,s7⟩;rw [Xo] at s7;have pq:=aj (iq.out.trans b7);have HS7:=aj s7;clear b7 s7 HI2 iq;have hq2:(q:Int)+2<9223372036854775807:=by have:=HX.out;omega
   go_wp2_with fail;go_roundg (30 - (k+1))
   case rel =>
    refine ⟨k+1,q+2,rfl,by omega,(by show _=_;have:=HQ.out;omega),by go_num,by go_num,pq,l++[tJ sd],by rw [List.length_append,Hll.out];rfl,?_,HS7.out⟩;rw [Kz.out.2,<- Hll.out];exact HDo.out.snoc HDi.out.1 HDi.out.2
   case measure=>omega
  ·obtain ⟨l,hll,hdo,hst⟩:=HL.out;have Hll:=aj hll;have HDo:=aj hdo;have sw:=aj hst;have Hlen:=aj hk;have CZ:=aj (Zw HA.out hst nX Lb l (by decide) (by decide) (Xm _ _) (by omega) Ov Ig (HT.out _ HB.out));rw [Ow,hll] at CZ;clear hdo hst HL HD HR hll;have hw1:IntKind.i64.wrap ((q:Int)+1)=(q:Int)+1:=by rw [IntKind.wrap_i64];omega
   by_cases x1:q+1<n
   ·have x1':(q:Int)+1<(n:Int):=by omega
    obtain rfl:k=30:=by omega
    clear hlt hq x1;go_wp2_with fail;refine CZ.out.mono ?_;rintro e8 w8 ⟨b8,A8,c8,rfl,_⟩;have LU:=aj (HB.out.trans (b8.mono HB.out.size));have HS8:=aj (sw.out.keep b8);have F5:=aj (E5 HA.out HS8.out ⟨#[122]⟩ Lb (by decide) (by decide) (K9 _ _ (by decide) (by decide)) Ov Ig (HT.out _ LU.out));clear b8 CZ;go_wp2_with fail;refine F5.out.mono ?_;rintro e9 w9 ⟨b9,rfl⟩;have Yv:=aj (LU.out.trans (b9.mono LU.out.size));have HS9:=aj (HS8.out.keep b9);clear b9 F5;go_wp2_with fail;refine bodyPost_ret (v:=.tuple #[.pointer (some ⟨p,0,none⟩),.int .i64 ((30:Nat):Int)]) (by simp [results,Tryz.results7,go_sem, *]) rfl ?_;exact ⟨p,l,by rw [Hll.out],Yv.out,HDo.out,by rw [Hll.out];exact Hlen.out,HS9.out⟩
   ·have x1':¬ ((q:Int)+1<(n:Int)):=by omega
    clear hlt hq x1;go_wp2_with fail;refine CZ.out.mono ?_;rintro e8 w8 ⟨b8,A8,c8,rfl,_⟩;have LU:=aj (HB.out.trans (b8.mono HB.out.size));have HS8:=aj (sw.out.keep b8);have F5:=aj (E5 HA.out HS8.out ⟨#[122]⟩ Lb (by decide) (by decide) (K9 _ _ (by decide) (by decide)) Ov Ig (HT.out _ LU.out));clear b8 CZ;go_wp2_with fail;refine F5.out.mono ?_;rintro e9 w9 ⟨b9,rfl⟩;have Yv:=aj (LU.out.trans (b9.mono LU.out.size));have HS9:=aj (HS8.out.keep b9);clear b9 F5;go_wp2_with fail;refine bodyPost_ret (v:=.tuple #[.pointer (some ⟨p,0,none⟩),.int .i64 (k:Nat)]) (by simp [results,Tryz.results7,go_sem, *]) rfl ?_;exact ⟨p,l,by rw [Hll.out],Yv.out,HDo.out,by rw [Hll.out];exact Hlen.out,HS9.out⟩
theorem XM {w:World} {f:Nat} {La:Option Addr} {t:T} (h:bK w f La t) {i:Nat} (hi:i<nL t) {x:T} (hx:elt t i=x):∃ b o,La=some ⟨b,o,none⟩/\b<w.heap.size/\w.cell? ⟨b,o+i*5+1,none⟩=some (.int .i64 (au x)):=by
 obtain ⟨bb,oo,A,B,C,D,h0,hbl,p0,p1,p2,p3,p4,Ha⟩:=h.shape (Below.refl _ _) i hi;exact ⟨bb,oo,h0,hbl,by rw [<- hx];exact p1⟩
structure ArB (b:Nat) (kd:Int) (lv fn d0 d1 d2 d3 d4:Value) (w:World):Prop where
 c0:w.cell? ⟨b,0,none⟩=some (.int .i64 kd)
 c1:w.cell? ⟨b,1,none⟩=some lv
 c2:w.cell? ⟨b,2,none⟩=some fn
 lt:b<w.heap.size
 box:aH (b+1) d0 d1 d2 d3 d4 w
 res:aH (b+2) (.int .i64 0) (.int .i64 0) (.string ⟨#[]⟩) (.slice none 0 0) (.slice none 0 0) w
theorem ArB.stay {b:Nat} {kd:Int} {lv fn d0 d1 d2 d3 d4:Value} {w w':World} (h:ArB b kd lv fn d0 d1 d2 d3 d4 w) (hb:Below w.heap.size w w'):ArB b kd lv fn d0 d1 d2 d3 d4 w' :=
 ⟨(hb.cell (p:=⟨b,0,none⟩) h.lt).trans h.c0,(hb.cell (p:=⟨b,1,none⟩) h.lt).trans h.c1,(hb.cell (p:=⟨b,2,none⟩) h.lt).trans h.c2,Nat.lt_of_lt_of_le h.lt hb.size,h.box.stay hb,h.res.stay hb⟩
theorem ArB.new (w:World) (kd:Int) (lv fn d0 d1 d2 d3 d4:Value):ArB w.heap.size kd lv fn d0 d1 d2 d3 d4 (((w.alloc (.cells #[.int .i64 kd,lv,fn] 272)).alloc (.cells #[d0,d1,d2,d3,d4] 36)).alloc (.cells #[.int .i64 0,.int .i64 0,.string ⟨#[]⟩,.slice none 0 0,.slice none 0 0] 36)):=by
 have hb2:=aJ (w.alloc (.cells #[.int .i64 kd,lv,fn] 272)) d0 d1 d2 d3 d4;have hb3:=aJ ((w.alloc (.cells #[.int .i64 kd,lv,fn] 272)).alloc (.cells #[d0,d1,d2,d3,d4] 36)) (.int .i64 0) (.int .i64 0) (.string ⟨#[]⟩) (.slice none 0 0) (.slice none 0 0);have hk:Below ((w.alloc (.cells #[.int .i64 kd,lv,fn] 272)).alloc (.cells #[d0,d1,d2,d3,d4] 36)).heap.size ((w.alloc (.cells #[.int .i64 kd,lv,fn] 272)).alloc (.cells #[d0,d1,d2,d3,d4] 36)) (((w.alloc (.cells #[.int .i64 kd,lv,fn] 272)).alloc (.cells #[d0,d1,d2,d3,d4] 36)).alloc (.cells #[.int .i64 0,.int .i64 0,.string ⟨#[]⟩,.slice none 0 0,.slice none 0 0] 36)):=aQ _ _;refine ⟨by simp [go_sem],by simp [go_sem],by simp [go_sem],by simp;omega,?_,?_⟩
 ·have:=hb2.stay hk;simpa using this
 ·simpa using hb3
def zJ (op:Int->Int->Int) (ok:Int->Int->Bool) (gs:List (T->Int⊕T)) (d:T):Int⊕T:=match mI gs d with
 | .inl x=>.inl x
 | .inr l=>if l.any (vL 3)=true then .inl 13 else if ok (au (l.getD 0 aL)) (au (l.getD 1 aL))=true then .inr (nT (op (au (l.getD 0 aL)) (au (l.getD 1 aL)))) else .inl 14
def sU (fid:FuncId) (op:Int->Int->Int) (ok:Int->Int->Bool):Prop:=(∀ (a:Array Value) (w:World),(callFunc fid a).run Tryz.prog w=.ok (.enter fid a) w)/\∀ (a b:Int) (w:World),bU a->bU b->Calls Tryz.prog fid #[.int .i64 a,.int .i64 b] w fun e w'=>w'=w/\∃ s,e=.returned (.tuple #[.int .i64 s,.bool (ok a b)])/\(ok a b=true->s=op a b/\bU s)
theorem SY {Tb:World->Prop} (hL:aS Tb) (lv:Value) (gs:List (T->Int⊕T)) (fid:FuncId) (op:Int->Int->Int) (ok:Int->Int->Bool) (hR:sU fid op ok) (h2:gs.length=2) (x:Value) (doc:T) (w0 w:World) (hb0:Below w0.heap.size w0 w) (hl:eY Tb w0 lv gs) (h:At w0 13 x doc) (hok:bM doc) (hT:Tb w) :
  Calls Tryz.prog 277 #[.agg #[.int .i64 3,lv,.func (Fn.func fid) #[] #[]],x] w (jr w0 (zJ op ok gs) doc w):=by
 obtain ⟨g1,La,Ka,Lc,Kc,hg1,hx,_,_,_⟩:=h.open;have hl2:=hl;obtain ⟨EA,ec,hlv,hn,_⟩:=hl2;obtain ⟨hcf,hrk⟩:=hR;have HRk:=aj hrk;obtain ⟨W3,hW3⟩:∃ W,((w.alloc (.cells #[.int .i64 3,.slice EA gs.length ec,.func (Fn.func fid) #[] #[]] 272)).alloc (vC doc La Lc Ka Kc)).alloc (.cells #[.int .i64 0,.int .i64 0,.string ⟨#[]⟩,.slice none 0 0,.slice none 0 0] 36)=W:=⟨_,rfl⟩;have HB1:Hid (Below w.heap.size w W3):=by rw [<- hW3];exact ((aQ _ _).alloc (by simp) _).alloc (by simp;omega) _
 have HX:=aj (ArB.new w 3 (.slice EA gs.length ec) (.func (Fn.func fid) #[] #[]) (.int .i64 (ah doc)) (.int .i64 (au doc)) (.string (ay doc)) (.slice La (nL doc) Lc) (.slice Ka (nK doc) Kc));rw [hW3] at HX;have Hb0:=aj (hb0.trans (HB1.out.mono hb0.size));have HC:=aj (vM hL 3 lv gs x doc w0 W3 Hb0.out hl h hok (hL w hT w W3 hT HB1.out))
 have HE:Hid (zJ op ok gs doc=match mI gs doc with
  | .inl x=>.inl x
  | .inr l=>if l.any (vL 3)=true then .inl 13 else if ok (au (l.getD 0 aL)) (au (l.getD 1 aL))=true then .inr (nT (op (au (l.getD 0 aL)) (au (l.getD 1 aL)))) else .inl 14):=rfl
 have H2:=aj h2;subst hlv;subst hx;clear h hok hT hL hg1 hb0 hl hn hrk h2;rw [H2.out] at HX hW3 HC ⊢;have c0:=HX.out.c0;have c1:=HX.out.c1;have c2:=HX.out.c2;have qM:=aj HX.out.box;have y0:=qM.out.q0;have y1:=qM.out.q1;have y2:=qM.out.q2;have y3:=qM.out.q3;have y4:=qM.out.q4;go_in;go_wp2_with fail;refine HC.out.mono ?_;rintro e w3 ⟨b3,hp⟩;have HB3:=aj (HB1.out.trans (b3.mono HB1.out.size));have dP:=aj (HX.out.stay b3);have gQ:=aj (Hb0.out.trans (b3.mono Hb0.out.size));clear b3 HC c0 c1 c2 HX qM hW3 HB1;clear y0 y1 y2 y3 y4;rcases hp with ⟨er,he,hne,rfl⟩ | ⟨l,he,hany,rfl⟩ | ⟨l,v,xs,he,hany,hlen,rfl,hv⟩
 ·have HK:Hid (zJ op ok gs doc=.inl er/\er≠0):=⟨by rw [HE.out,he],hne⟩;have hnb:(er != 0)=true:=by simpa using hne
  clear he hne;have bf:=aj dP.out.res;have HO:=aj (bf.out.bG (.int .i64 0) (.int .i64 0) (.string ⟨#[]⟩) (.slice none 0 0) (.slice none 0 0));have dF:=aj (aU HB3.out (b:=w.heap.size+2) (by omega) (by have:=bf.out.lt;omega) (.int .i64 0) (.int .i64 0) (.string ⟨#[]⟩) (.slice none 0 0) (.slice none 0 0));unfold bG at HO dF;have r0:=bf.out.q0;have r1:=bf.out.q1;have r2:=bf.out.q2;have r3:=bf.out.q3;have r4:=bf.out.q4;have z0:=bf.out.f0;have z1:=bf.out.f1;have z2:=bf.out.f2;have z3:=bf.out.f3;have z4:=bf.out.f4;go_wp2_with fail;clear r0 r1 r2 r3 r4 z0 z1 z2 z3 z4;have bq:=aj HO.out;have r0:=bq.out.q0;have r1:=bq.out.q1;have r2:=bq.out.q2;have r3:=bq.out.q3;have r4:=bq.out.q4;refine bodyPost_ret (v:=.tuple #[.agg #[.int .i64 0,.int .i64 0,.string ⟨#[]⟩,.slice none 0 0,.slice none 0 0],.int .i64 er]) (by simp [results,Tryz.results277,go_sem, *]) rfl ?_;exact ⟨dF.out,.inl ⟨er,HK.out.1,HK.out.2,rfl⟩⟩
 ·have HK:Hid (zJ op ok gs doc=.inl 13):=by show _=_;rw [HE.out,he];dsimp only;rw [if_pos hany]
  clear he hany;have bf:=aj dP.out.res;have HO:=aj (bf.out.bG (.int .i64 0) (.int .i64 0) (.string ⟨#[]⟩) (.slice none 0 0) (.slice none 0 0));have dF:=aj (aU HB3.out (b:=w.heap.size+2) (by omega) (by have:=bf.out.lt;omega) (.int .i64 0) (.int .i64 0) (.string ⟨#[]⟩) (.slice none 0 0) (.slice none 0 0));unfold bG at HO dF;have r0:=bf.out.q0;have r1:=bf.out.q1;have r2:=bf.out.q2;have r3:=bf.out.q3;have r4:=bf.out.q4;have z0:=bf.out.f0;have z1:=bf.out.f1;have z2:=bf.out.f2;have z3:=bf.out.f3;have z4:=bf.out.f4;go_wp2_with fail;clear r0 r1 r2 r3 r4 z0 z1 z2 z3 z4;have bq:=aj HO.out;have r0:=bq.out.q0;have r1:=bq.out.q1;have r2:=bq.out.q2;have r3:=bq.out.q3;have r4:=bq.out.q4;refine bodyPost_ret (v:=.tuple #[.agg #[.int .i64 0,.int .i64 0,.string ⟨#[]⟩,.slice none 0 0,.slice none 0 0],.int .i64 13]) (by simp [results,Tryz.results277,go_sem, *]) rfl ?_;exact ⟨dF.out,.inl ⟨13,HK.out,by decide,rfl⟩⟩
 ·have VG:l.length=2:=by rw [hlen,H2.out]
  obtain ⟨l0,l1,rfl⟩:∃ l0 l1,l=[l0,l1]:=by
   match l,VG with
   | [a,b],_=>exact ⟨a,b,rfl⟩
  have hd:=hv.docs gQ.out (by simp);obtain ⟨A,c,rfl⟩:=gY hv.row
  have f0:bU (au l0):=by
   obtain ⟨_,_,_,_,_,_,_,hf,_,_⟩:=(hv.at_ 0 (by simp)).open;exact ⟨hf.n0,hf.n1⟩
  have f1:bU (au l1):=by
   obtain ⟨_,_,_,_,_,_,_,hf,_,_⟩:=(hv.at_ 1 (by simp)).open;exact ⟨hf.n0,hf.n1⟩
  obtain ⟨La',Lc',hv',_,_,_,hel,_⟩:=hd;simp only [Value.slice.injEq,true_and] at hv';obtain ⟨rfl,rfl⟩:=hv';obtain ⟨b,o,rfl,_,p1⟩:=XM hel (i:=0) (by rw [aI];simp) (dD [l0,l1] (by simp));obtain ⟨b',o',e9,_,p2⟩:=XM hel (i:=1) (by rw [aI];simp) (dD [l0,l1] (by simp));simp only [Option.some.injEq,Addr.mk.injEq,and_true] at e9;obtain ⟨rfl,rfl⟩:=e9;simp only [Nat.zero_mul,Nat.one_mul,Nat.add_zero,Nat.add_assoc,Nat.reduceAdd,List.getElem_cons_zero,List.getElem_cons_succ] at p1 p2;have UA:Hid (zJ op ok gs doc=if ok (au l0) (au l1)=true then .inr (nT (op (au l0) (au l1))) else .inl 14):=by show _=_;rw [HE.out,he];dsimp only;rw [if_neg (by rw [hany];decide)];rfl
  have HCr:=aj (HRk.out (au l0) (au l1) w3.drew f0 f1);generalize au l0=n0 at UA HCr p1;generalize au l1=n1 at UA HCr p2;have c2:=dP.out.c2;clear he hany hlen hv hel f0 f1 VG HE;go_wp2_with fail;go_region_law (first | (go_simp;refine Calls.mono HCr.out ?_;rintro e7 w7 ⟨hw7,s,rfl,hs⟩;rw [hw7];clear hw7;have Hs:=aj hs;clear hs;dsimp only))
  all_goals
   obtain ⟨bb,hbb⟩:∃ bb,ok n0 n1=bb:=⟨_,rfl⟩;rw [hbb] at UA Hs ⊢;clear HCr hbb;cases bb with
   | false =>
    have HK:Hid (zJ op ok gs doc=.inl 14):=UA.out;clear UA Hs;have bf:=aj (show aH (w.heap.size+1+1) (.int .i64 0) (.int .i64 0) (.string ⟨#[]⟩) (.slice none 0 0) (.slice none 0 0) w3 from dP.out.res);have HO:=aj (bf.out.bG (.int .i64 0) (.int .i64 0) (.string ⟨#[]⟩) (.slice none 0 0) (.slice none 0 0));have dF:=aj (aU HB3.out (b:=w.heap.size+1+1) (by omega) (by have:=bf.out.lt;omega) (.int .i64 0) (.int .i64 0) (.string ⟨#[]⟩) (.slice none 0 0) (.slice none 0 0));unfold bG at HO dF;have r0:=bf.out.q0;have r1:=bf.out.q1;have r2:=bf.out.q2;have r3:=bf.out.q3;have r4:=bf.out.q4;have z0:=bf.out.f0;have z1:=bf.out.f1;have z2:=bf.out.f2;have z3:=bf.out.f3;have z4:=bf.out.f4;go_wp2_with fail;clear r0 r1 r2 r3 r4 z0 z1 z2 z3 z4;have bq:=aj HO.out;have r0:=bq.out.q0;have r1:=bq.out.q1;have r2:=bq.out.q2;have r3:=bq.out.q3;have r4:=bq.out.q4;refine bodyPost_ret (v:=.tuple #[.agg #[.int .i64 0,.int .i64 0,.string ⟨#[]⟩,.slice none 0 0,.slice none 0 0],.int .i64 14]) (by simp [results,Tryz.results277,go_sem, *]) rfl ?_;exact ⟨dF.out.drew,.inl ⟨14,HK.out,by decide,rfl⟩⟩
   | true =>
    obtain ⟨hs1,hfs⟩:=Hs.out rfl;have HK:Hid (zJ op ok gs doc=.inr (nT s)):=by rw [hs1];exact UA.out
    clear UA Hs hs1;have bf:=aj (show aH (w.heap.size+1+1) (.int .i64 0) (.int .i64 0) (.string ⟨#[]⟩) (.slice none 0 0) (.slice none 0 0) w3 from dP.out.res);have HO:=aj (bf.out.bG (.int .i64 3) (.int .i64 s) (.string ⟨#[]⟩) (.slice none 0 0) (.slice none 0 0));have dF:=aj (aU HB3.out (b:=w.heap.size+1+1) (by omega) (by have:=bf.out.lt;omega) (.int .i64 3) (.int .i64 s) (.string ⟨#[]⟩) (.slice none 0 0) (.slice none 0 0));have lK:Hid (At w0 13 (.agg #[.int .i64 3,.int .i64 s,.string ⟨#[]⟩,.slice none 0 0,.slice none 0 0]) (nT s)/\bM (nT s)):=⟨Od w0 hfs,Ib s⟩;unfold bG at HO dF;have r0:=bf.out.q0;have r1:=bf.out.q1;have r2:=bf.out.q2;have r3:=bf.out.q3;have r4:=bf.out.q4;have z0:=bf.out.f0;have z1:=bf.out.f1;have z2:=bf.out.f2;have z3:=bf.out.f3;have z4:=bf.out.f4;go_wp2_with fail;clear r0 r1 r2 r3 r4 z0 z1 z2 z3 z4;have bq:=aj HO.out;have r0:=bq.out.q0;have r1:=bq.out.q1;have r2:=bq.out.q2;have r3:=bq.out.q3;have r4:=bq.out.q4;refine bodyPost_ret (v:=.tuple #[.agg #[.int .i64 3,.int .i64 s,.string ⟨#[]⟩,.slice none 0 0,.slice none 0 0],.int .i64 0]) (by simp [results,Tryz.results277,go_sem, *]) rfl ?_;exact ⟨dF.out.drew,.inr ⟨nT s,none,0,none,0,HK.out,rfl,lK.out.1,lK.out.2⟩⟩
theorem OH (p:Value) (w:World):(method 419 272 p "Of").run Tryz.prog w=.ok (277,p) w:=by kernel_rfl
theorem Cn {Tb:World->Prop} (hL:aS Tb) {w:World} {lv:Value} {gs:List (T->Int⊕T)} {fid:FuncId} {op:Int->Int->Int} {ok:Int->Int->Bool} (hR:sU fid op ok) (h2:gs.length=2) (hl:eY Tb w lv gs):bL Tb w (.iface 272 (.agg #[.int .i64 3,lv,.func (Fn.func fid) #[] #[]])) (zJ op ok gs) :=
 ⟨_,_,_,rfl,OH _,fun _ _=>rfl,fun w0 wr x doc hb hb0 ha hk hT=>SY hL lv gs fid op ok hR h2 x doc w0 wr hb0 (hl.keep hb) ha hk hT⟩
theorem XO:sU 194 (fun a b=>a+b) (fun a b=>decide (bU (a+b))) :=
 ⟨fun _ _=>rfl,fun a b w h0 h1=>(Fb a b w h0 h1).mono fun e w' h=>by
  obtain ⟨hw,s,he,hs⟩:=h
  exact ⟨hw,s,he,fun hd=>by
   have hf:=of_decide_eq_true hd;rw [hs hf];exact ⟨rfl,hf⟩⟩⟩
theorem FE (n:Int):bU (IntKind.i64.wrap n):=by
 unfold bU;rw [IntKind.wrap_i64];omega
def yE (a b:Int):Int:=IntKind.i64.wrap (a - b)
def Dt (a b:Int):Bool:=decide (yE a b<a)==decide (0<b)
theorem aah (a b:Int) (w:World):Calls Tryz.prog 195 #[.int .i64 a,.int .i64 b] w fun e w'=>w'=w/\e=.returned (.tuple #[.int .i64 (yE a b),.bool (Dt a b)]):=by
 have HK:Hid (Dt a b=(decide (yE a b<a)==decide (0<b))):=rfl;have hs:IntKind.i64.wrap (a - b)=yE a b:=rfl;generalize Dt a b=kk at *;generalize yE a b=d at *;by_cases h1:d<a
 ·by_cases h2:0<b
  ·have hk:kk=true:=by rw [HK.out,decide_eq_true h1,decide_eq_true h2];rfl
   subst hk;clear HK;go_in;go_wp2_with fail;refine bodyPost_ret (v:=.tuple #[.int .i64 d,.bool true]) (by simp [results,Tryz.results195,go_sem, *]) rfl ?_;exact ⟨rfl,rfl⟩
  ·have hk:kk=false:=by rw [HK.out,decide_eq_true h1,decide_eq_false h2];rfl
   subst hk;clear HK;go_in;go_wp2_with fail;refine bodyPost_ret (v:=.tuple #[.int .i64 d,.bool false]) (by simp [results,Tryz.results195,go_sem, *]) rfl ?_;exact ⟨rfl,rfl⟩
 ·by_cases h2:0<b
  ·have hk:kk=false:=by rw [HK.out,decide_eq_false h1,decide_eq_true h2];rfl
   subst hk;clear HK;go_in;go_wp2_with fail;refine bodyPost_ret (v:=.tuple #[.int .i64 d,.bool false]) (by simp [results,Tryz.results195,go_sem, *]) rfl ?_;exact ⟨rfl,rfl⟩
  ·have hk:kk=true:=by rw [HK.out,decide_eq_false h1,decide_eq_false h2];rfl
   subst hk;clear HK;go_in;go_wp2_with fail;refine bodyPost_ret (v:=.tuple #[.int .i64 d,.bool true]) (by simp [results,Tryz.results195,go_sem, *]) rfl ?_;exact ⟨rfl,rfl⟩
theorem XP:sU 195 yE Dt :=
 ⟨fun _ _=>rfl,fun a b w _ _=>(aah a b w).mono fun _ _ h=>⟨h.1,yE a b,h.2,fun _=>⟨rfl,FE _⟩⟩⟩
def yF (a b:Int):Int:=if b=0 then 0 else IntKind.i64.wrap (a*b)
def zK (a b:Int):Bool:=if b=0 then true else if IntKind.i64.wrap ((IntKind.i64.wrap (a*b)).tdiv b)=a then (if a=-9223372036854775808 then (if b=-1 then false else true) else true) else false
theorem aai (a b:Int) (w:World):Calls Tryz.prog 196 #[.int .i64 a,.int .i64 b] w fun e w'=>w'=w/\e=.returned (.tuple #[.int .i64 (yF a b),.bool (zK a b)]):=by
 by_cases h0:b=0
 ·have e1:yF a b=0:=by unfold yF;rw [if_pos h0]
  have e2:zK a b=true:=by unfold zK;rw [if_pos h0]
  rw [e1,e2];subst h0;clear e1 e2;go_in;go_wp2_with fail;refine bodyPost_ret (v:=.tuple #[.int .i64 0,.bool true]) (by simp [results,Tryz.results196,go_sem, *]) rfl ?_;exact ⟨rfl,rfl⟩
 ·have e1:yF a b=IntKind.i64.wrap (a*b):=by unfold yF;rw [if_neg h0]
  have HK:Hid (zK a b=if IntKind.i64.wrap ((IntKind.i64.wrap (a*b)).tdiv b)=a then (if a=-9223372036854775808 then (if b=-1 then false else true) else true) else false):=by show _=_;unfold zK;rw [if_neg h0]
  rw [e1];clear e1;have hb0:(b==0)=false:=by simpa using h0
  generalize zK a b=kk at *;obtain ⟨p,hp⟩:∃ p,IntKind.i64.wrap (a*b)=p:=⟨_,rfl⟩;rw [hp] at HK ⊢;obtain ⟨q,hq⟩:∃ q,IntKind.i64.wrap (p.tdiv b)=q:=⟨_,rfl⟩;rw [hq] at HK;by_cases h1:q=a
  ·by_cases h2:a=-9223372036854775808
   ·by_cases h3:b=-1
    ·have hk:kk=false:=by rw [HK.out,if_pos h1,if_pos h2,if_pos h3]
     have h1b:(q==a)=true:=by simpa using h1
     have h2b:(a==-9223372036854775808)=true:=by simpa using h2
     have h3b:(b==-1)=true:=by simpa using h3
     subst hk;clear HK h1 h2 h3;go_in;go_wp2_with fail;refine bodyPost_ret (v:=.tuple #[.int .i64 p,.bool false]) (by simp [results,Tryz.results196,go_sem, *]) rfl ?_;exact ⟨rfl,rfl⟩
    ·have hk:kk=true:=by rw [HK.out,if_pos h1,if_pos h2,if_neg h3]
     have h1b:(q==a)=true:=by simpa using h1
     have h2b:(a==-9223372036854775808)=true:=by simpa using h2
     have h3b:(b==-1)=false:=by simpa using h3
     subst hk;clear HK h1 h2 h3;go_in;go_wp2_with fail;refine bodyPost_ret (v:=.tuple #[.int .i64 p,.bool true]) (by simp [results,Tryz.results196,go_sem, *]) rfl ?_;exact ⟨rfl,rfl⟩
   ·have hk:kk=true:=by rw [HK.out,if_pos h1,if_neg h2]
    have h1b:(q==a)=true:=by simpa using h1
    have h2b:(a==-9223372036854775808)=false:=by simpa using h2
    subst hk;clear HK h1 h2;go_in;go_wp2_with fail;refine bodyPost_ret (v:=.tuple #[.int .i64 p,.bool true]) (by simp [results,Tryz.results196,go_sem, *]) rfl ?_;exact ⟨rfl,rfl⟩
  ·have hk:kk=false:=by rw [HK.out,if_neg h1]
   have h1b:(q==a)=false:=by simpa using h1
   subst hk;clear HK;go_in;go_wp2_with fail;refine bodyPost_ret (v:=.tuple #[.int .i64 p,.bool false]) (by simp [results,Tryz.results196,go_sem, *]) rfl ?_;exact ⟨rfl,rfl⟩
theorem XQ:sU 196 yF zK :=
 ⟨fun _ _=>rfl,fun a b w _ _=>(aai a b w).mono fun _ _ h=>⟨h.1,yF a b,h.2,fun _=>⟨rfl,by
  unfold yF;split
  ·exact ⟨by omega,by omega⟩
  ·exact FE _⟩⟩⟩
def adD (Tb:World->Prop) (wB:World) (gs:List (T->Int⊕T)) (w:World) (e:Ending) (w':World):Prop :=
 Below w.heap.size w w'/\∃ A c,e=.returned (.slice A gs.length c)/\gB wB w' (aT w w') (fun x=>eY Tb x (.slice A gs.length c) gs)
theorem Ll {Tb:World->Prop} (hL:aS Tb) (t:T) (gs:List (T->Int⊕T)) (hl:nL t=gs.length) (hn:gs.length<=100000) (hgs:∀ i,(hi:i<gs.length)->dH Tb (elt t i) gs[i]) (La:Option Addr) (Lc g1:Nat) (wB w:World) (hel:bK wB g1 La t) (hg:g1<=13) (hk:bM t) (hb0:Below wB.heap.size wB w) (hT:Tb w) :
  Calls Tryz.prog 197 #[.slice La (nL t) Lc] w (adD Tb wB gs w):=by
 obtain ⟨iX,hiX,zX0,zX1,zX2⟩:=info_parts Xu;have zu:=aj hk;have Gd:=aj hel;have HT:Hid (∀ w':World,Below w.heap.size w w'->Tb w'):=fun w' hb=>hL w hT w w' hT hb;have qH:=aj hgs;have Hl:=aj hl;have Zz:=aj hn;have hnk:nL t<=100000:=by omega
 have Hg1:=aj hg;clear hk hel hT hL hgs hl hn hg;go_in;go_wp2_with fail;go_loopg [3,8] (nL t) (fun g o i wr=>∃ (k:Nat) (xs:List Value),g=nL t - k/\k<=nL t/\i=.int .i64 k/\Hid (Below w.heap.size w wr)/\Hid (ru (ExE Tb wB) 1 175 w.heap.size o (gs.take k) xs wr))
 case atStart=>exact ⟨0,[],rfl,Nat.zero_le _,rfl,Below.refl _ _,ru.nil _ _ _ _ _⟩
 case round =>
  obtain ⟨k,xs,rfl,hk,rfl,HB,HL⟩:=hrel;have nR:=aj (hb0.trans (HB.out.mono hb0.size));by_cases hlt:k<nL t
  ·have wV:k<gs.length:=by have:=Hl.out;omega
   obtain ⟨bb,oo,A,B,C,D,rfl,hbl,p0,p1,p2,p3,p4,Ha⟩:=Gd.out.shape nR.out k hlt;have e3:=qH.out k wV;obtain ⟨j,hj⟩:∃ j,elt t k=j:=⟨_,rfl⟩;have hkj:=zu.out.elt hlt;rw [hj] at p0 p1 p2 p3 p4 Ha hkj e3;obtain ⟨W2,hW2⟩:∃ W2,wr.alloc (vC j A B C D)=W2:=⟨_,rfl⟩;have fF:Hid (Below wr.heap.size wr W2):=by rw [<- hW2];exact aQ _ _
   have HY:=aj (aJ wr (.int .i64 (ah j)) (.int .i64 (au j)) (.string (ay j)) (.slice A (nL j) B) (.slice C (nK j) D));rw [hW2] at HY;have HC:=aj (e3 _ wB W2 (Ha.out.up (show g1<=13 from Hg1.out)) hkj (nR.out.trans (fF.out.mono nR.out.size)) (HT.out _ (HB.out.trans (fF.out.mono HB.out.size))));have CY:Hid (gs.take (k+1)=gs.take k++[gs[k]]):=by show _=_;rw [List.take_add_one,List.getElem?_eq_getElem wV];rfl
   have hxl:(gs.take k).length=k:=by rw [List.length_take];omega
   generalize gs[k]=gk at HC CY;clear e3 hj hkj Ha;have y0:=HY.out.q0;have y1:=HY.out.q1;have y2:=HY.out.q2;have y3:=HY.out.q3;have y4:=HY.out.q4;go_wp2_with fail;refine HC.out.mono ?_;rintro e w3 ⟨b3,t6,v6,rfl,ht⟩;have UW:=aj ht;have Hb3:=aj (fF.out.trans (b3.mono fF.out.size));have Hwl:=aj fF.out.size;have bT:=aj (aQ w3 (.cells #[.iface t6 v6] 175));have rH:=aj ((HL.out.keep (jD Tb wB) Hb3.out).keep (jD Tb wB) bT.out);have qy:Hid (Src Tryz.prog 1 166 (.slice (some ⟨w3.heap.size,0,none⟩) 1 1) 1 [.iface t6 v6] (w3.alloc (.cells #[.iface t6 v6] 175))):=Src.ofSlice _ Tryz.underlying166 ⟨w3.heap.size,0,none⟩ 1 1 [.iface t6 v6] (by simp) (World.news_of_block (heap_alloc_new w3 _)) (by simp [Value.oneCell']);have hlow:w.heap.size<=wr.heap.size:=HB.out.size;have hlo:w.heap.size<=(w3.alloc (.cells #[.iface t6 v6] 175)).heap.size:=by have:=Hb3.out.size;simp;omega
   clear b3 ht HC hW2;clear y0 y1 y2 y3 y4;go_wp2_with (at_builtin;refine aD _ rfl (.tmp 12) (.tmp 15) 166 166 rfl w.heap.size 175 iX _ 1 16 Tryz.underlying166 hiX zX0 zX1 zX2 rfl u3 (gs.take k).length xs rfl rH.out.row (.slice (some ⟨w3.heap.size,0,none⟩) 1 1) 1 [.iface t6 v6] rfl qy.out (by unfold maxLen;omega) (by omega) hlo ?_;intro v' w6 pV lZ dW);have zn:=aj (HL.out.grow (x:=gk) (cs:=[.iface t6 v6]) (jD Tb wB) (Hb3.out.trans (bT.out.mono Hb3.out.size)) rfl (jD Tb wB _ _ _ _ _ _ ⟨t6,v6,rfl,UW.out⟩ (fun b hb=>⟨bT.out.block b hb.2,hb⟩)) (fun b hb=>⟨Nat.le_trans Hwl.out hb.1,Nat.lt_of_lt_of_le hb.2 bT.out.size⟩) hlow pV lZ dW);have iq:=aj (bY ((HB.out.trans (Hb3.out.mono HB.out.size)).trans (bT.out.mono (HB.out.trans (Hb3.out.mono HB.out.size)).size)) rH.out.row (Nat.le_refl _) hlo lZ);rw [<- CY.out] at zn;clear pV lZ dW;go_wp2_with fail;go_roundg (nL t - (k+1))
   case rel=>exact ⟨k+1,_,rfl,by omega,by go_num,iq,zn⟩
   case measure=>omega
  ·obtain rfl:k=nL t:=by omega
   rw [Hl.out,List.take_length] at HL;obtain ⟨A,c,rfl,hs⟩:=Fy (w:=w) HL.out (Nat.le_refl _) (by have:=Zz.out;omega);have HS:=aj hs;clear hs HL;go_wp2_with fail;go_ret;exact ⟨HB.out,_,_,rfl,HS.out⟩
def adE (Tb:World->Prop) (wB:World) (gs:List (T->Int⊕T)) (w:World) (e:Ending) (w':World):Prop :=
 Below w.heap.size w w'/\∃ A c,e=.returned (.agg #[.int .i64 3,.slice A gs.length c])/\gB wB w' (aT w w') (fun x=>eY Tb x (.slice A gs.length c) gs)
structure Op2 (b:Nat) (w:World):Prop where
 q0:w.cell? ⟨b,0,none⟩=some (.int .i64 0)
 q1:w.cell? ⟨b,1,none⟩=some (.slice none 0 0)
 f0:w.frozen? ⟨b,0,none⟩=false
 f1:w.frozen? ⟨b,1,none⟩=false
 lt:b<w.heap.size
theorem Op2.stay {b:Nat} {w w':World} (h:Op2 b w) (hb:Below w.heap.size w w'):Op2 b w' :=
 ⟨(hb.cell (p:=⟨b,0,none⟩) h.lt).trans h.q0,(hb.cell (p:=⟨b,1,none⟩) h.lt).trans h.q1,(World.frozen?_of_block (a:=⟨b,0,none⟩) (hb.block b h.lt)).trans h.f0,(World.frozen?_of_block (a:=⟨b,1,none⟩) (hb.block b h.lt)).trans h.f1,Nat.lt_of_lt_of_le h.lt hb.size⟩
theorem Op2.new (w:World):Op2 w.heap.size (w.alloc (.cells #[.int .i64 0,.slice none 0 0] 268)):=⟨by simp [go_sem],by simp [go_sem],by simp [go_sem],by simp [go_sem],by simp⟩
theorem Co {Tb:World->Prop} (hL:aS Tb) (t:T) (gs:List (T->Int⊕T)) (k5:ah t=5) (h2:gs.length=2) (hl:nL t=gs.length) (hgs:∀ i,(hi:i<gs.length)->dH Tb (elt t i) gs[i]) (v:Value) (wB w:World) (ha:At wB 13 v t) (hk:bM t) (hb0:Below wB.heap.size wB w) (hT:Tb w) :
  Calls Tryz.prog 193 #[v] w (adE Tb wB gs w):=by
 obtain ⟨g1,La,Ka,Lc,Kc,hg1,rfl,hfj,hel,hnm⟩:=ha.open;have l2:nL t=2:=by omega
 obtain ⟨W2,hW2⟩:∃ W2,(w.alloc (.cells #[.int .i64 5,.int .i64 (au t),.string (ay t),.slice La 2 Lc,.slice Ka (nK t) Kc] 36)).alloc (.cells #[.int .i64 0,.slice none 0 0] 268)=W2:=⟨_,rfl⟩;have HB1:Hid (Below w.heap.size w W2):=by rw [<- hW2];exact (aQ _ _).alloc (by simp) _
 have HY:Hid (aH w.heap.size (.int .i64 5) (.int .i64 (au t)) (.string (ay t)) (.slice La 2 Lc) (.slice Ka (nK t) Kc) W2):=by
  have h1:=aJ w (.int .i64 5) (.int .i64 (au t)) (.string (ay t)) (.slice La 2 Lc) (.slice Ka (nK t) Kc);rw [<- hW2];exact h1.stay (aQ _ _)
 have HX:Hid (Op2 (w.heap.size+1) W2):=by
  have h1:=Op2.new (w.alloc (.cells #[.int .i64 5,.int .i64 (au t),.string (ay t),.slice La 2 Lc,.slice Ka (nK t) Kc] 36));rw [hW2] at h1;have h2:Op2 (w.heap.size+1) W2:=by simpa using h1
  exact h2
 have HWs:Hid (W2.heap.size=w.heap.size+2):=by rw [<- hW2];show _=_;simp
 have HC:=aj (Ll hL t gs hl (by omega) hgs La Lc g1 wB W2 hel.out (by omega) hk (hb0.trans (HB1.out.mono hb0.size)) (hL w hT w W2 hT HB1.out));rw [l2] at HC;rw [k5,l2];clear ha hk hel hnm hfj hT hL hgs hl hg1 hb0 h2 k5 l2;have y0:=HY.out.q0;have y1:=HY.out.q1;have y2:=HY.out.q2;have y3:=HY.out.q3;have y4:=HY.out.q4;go_in;go_wp2_with fail;refine (mJ _).mono ?_;rintro e W2 ⟨rfl,rfl⟩;go_wp2_with fail;refine HC.out.mono ?_;rintro e w3 ⟨b3,A,c,rfl,hs⟩;have HB3:=aj (HB1.out.trans (b3.mono HB1.out.size));have dP:=aj (HX.out.stay b3);have dF:=aj (kP (kP HB3.out (b:=w.heap.size+1) (by omega) 0 (.int .i64 3)) (b:=w.heap.size+1) (by omega) 1 (.slice A gs.length c));have HS:=aj ((hs.set (b:=w.heap.size+1) (c:=W2.heap.size) (by have:=HWs.out;omega) (Nat.le_refl _) 0 (.int .i64 3) (wa:=W2) rfl).set (b:=w.heap.size+1) (c:=w.heap.size) (by have:=HWs.out;omega) (by have:=HWs.out;omega) 1 (.slice A gs.length c) (wa:=w) rfl);have q0:=dP.out.q0;have q1:=dP.out.q1;have f0:=dP.out.f0;have f1:=dP.out.f1;clear b3 hs HC hW2 HX HY HB1;clear y0 y1 y2 y3 y4;go_wp2_with fail;refine bodyPost_ret (v:=.agg #[.int .i64 3,.slice A gs.length c]) (by simp [results,Tryz.results193,go_sem, *]) rfl ?_;exact ⟨dF.out,A,c,rfl,HS.out⟩
def Lm:ByteArray:=⟨#[36,97,100,100]⟩
theorem aaj {Tb:World->Prop} (hL:aS Tb) (j:T) (gs:List (T->Int⊕T)) (k5:ah j=5) (h2:gs.length=2) (hl:nL j=gs.length) (hgs:∀ i,(hi:i<gs.length)->dH Tb (elt j i) gs[i]) (v:Value) (wB w:World) (ha:At wB 13 v j) (hk:bM j) (hb0:Below wB.heap.size wB w) (hT:Tb w):Calls Tryz.prog 188 #[.string Lm,v] w (fT Tb wB (zJ (fun a b=>a+b) (fun a b=>decide (bU (a+b))) gs) w):=by
 obtain ⟨g1,La,Ka,Lc,Kc,hg1,hv,_,_,_⟩:=ha.open;have HB1:=aj (aQ w (vC j La Lc Ka Kc));have HC:=aj (Co hL j gs k5 h2 hl hgs v wB _ ha hk (hb0.trans (HB1.out.mono hb0.size)) (hL w hT _ _ hT HB1.out));have IB:Hid (∀ (lv:Value) (x:World),eY Tb x lv gs->bL Tb x (.iface 272 (.agg #[.int .i64 3,lv,.func (Fn.func 194) #[] #[]])) (zJ (fun a b=>a+b) (fun a b=>decide (bU (a+b))) gs)):=fun lv x h=>Cn hL XO h2 h;subst hv;clear ha hk hb0 hT hL hg1 hgs hl h2 k5;unfold Lm at *;go_in;go_wp2_with fail;refine HC.out.mono ?_;rintro e w3 ⟨b3,A,c,rfl,hs⟩;have HB3:=aj (HB1.out.trans (b3.mono HB1.out.size));have HS:=aj ((hs.later (wa:=w) (Below.refl _ _) (by simp)).mono (Q:=fun x=>bL Tb x (.iface 272 (.agg #[.int .i64 3,.slice A gs.length c,.func (Fn.func 194) #[] #[]])) (zJ (fun a b=>a+b) (fun a b=>decide (bU (a+b))) gs)) fun w' _ hh=>IB.out _ w' hh);clear b3 hs HC;go_wp2_with fail;go_ret;exact ⟨HB3.out,_,_,rfl,HS.out⟩
def FH:ByteArray:=⟨#[36,115,117,98]⟩
theorem aak {Tb:World->Prop} (hL:aS Tb) (j:T) (gs:List (T->Int⊕T)) (k5:ah j=5) (h2:gs.length=2) (hl:nL j=gs.length) (hgs:∀ i,(hi:i<gs.length)->dH Tb (elt j i) gs[i]) (v:Value) (wB w:World) (ha:At wB 13 v j) (hk:bM j) (hb0:Below wB.heap.size wB w) (hT:Tb w):Calls Tryz.prog 188 #[.string FH,v] w (fT Tb wB (zJ yE Dt gs) w):=by
 obtain ⟨g1,La,Ka,Lc,Kc,hg1,hv,_,_,_⟩:=ha.open;have HB1:=aj (aQ w (vC j La Lc Ka Kc));have HC:=aj (Co hL j gs k5 h2 hl hgs v wB _ ha hk (hb0.trans (HB1.out.mono hb0.size)) (hL w hT _ _ hT HB1.out));have IB:Hid (∀ (lv:Value) (x:World),eY Tb x lv gs->bL Tb x (.iface 272 (.agg #[.int .i64 3,lv,.func (Fn.func 195) #[] #[]])) (zJ yE Dt gs)):=fun lv x h=>Cn hL XP h2 h;subst hv;clear ha hk hb0 hT hL hg1 hgs hl h2 k5;unfold FH at *;go_in;go_wp2_with fail;refine HC.out.mono ?_;rintro e w3 ⟨b3,A,c,rfl,hs⟩;have HB3:=aj (HB1.out.trans (b3.mono HB1.out.size));have HS:=aj ((hs.later (wa:=w) (Below.refl _ _) (by simp)).mono (Q:=fun x=>bL Tb x (.iface 272 (.agg #[.int .i64 3,.slice A gs.length c,.func (Fn.func 195) #[] #[]])) (zJ yE Dt gs)) fun w' _ hh=>IB.out _ w' hh);clear b3 hs HC;go_wp2_with fail;go_ret;exact ⟨HB3.out,_,_,rfl,HS.out⟩
def Lp:ByteArray:=⟨#[36,109,117,108]⟩
theorem aal {Tb:World->Prop} (hL:aS Tb) (j:T) (gs:List (T->Int⊕T)) (k5:ah j=5) (h2:gs.length=2) (hl:nL j=gs.length) (hgs:∀ i,(hi:i<gs.length)->dH Tb (elt j i) gs[i]) (v:Value) (wB w:World) (ha:At wB 13 v j) (hk:bM j) (hb0:Below wB.heap.size wB w) (hT:Tb w):Calls Tryz.prog 188 #[.string Lp,v] w (fT Tb wB (zJ yF zK gs) w):=by
 obtain ⟨g1,La,Ka,Lc,Kc,hg1,hv,_,_,_⟩:=ha.open;have HB1:=aj (aQ w (vC j La Lc Ka Kc));have HC:=aj (Co hL j gs k5 h2 hl hgs v wB _ ha hk (hb0.trans (HB1.out.mono hb0.size)) (hL w hT _ _ hT HB1.out));have IB:Hid (∀ (lv:Value) (x:World),eY Tb x lv gs->bL Tb x (.iface 272 (.agg #[.int .i64 3,lv,.func (Fn.func 196) #[] #[]])) (zJ yF zK gs)):=fun lv x h=>Cn hL XQ h2 h;subst hv;clear ha hk hb0 hT hL hg1 hgs hl h2 k5;unfold Lp at *;go_in;go_wp2_with fail;refine HC.out.mono ?_;rintro e w3 ⟨b3,A,c,rfl,hs⟩;have HB3:=aj (HB1.out.trans (b3.mono HB1.out.size));have HS:=aj ((hs.later (wa:=w) (Below.refl _ _) (by simp)).mono (Q:=fun x=>bL Tb x (.iface 272 (.agg #[.int .i64 3,.slice A gs.length c,.func (Fn.func 196) #[] #[]])) (zJ yF zK gs)) fun w' _ hh=>IB.out _ w' hh);clear b3 hs HC;go_wp2_with fail;go_ret;exact ⟨HB3.out,_,_,rfl,HS.out⟩
end Go.Proofs.YtknakfpciccoaabGreatDoor
