import Derived.Test.YtknakfpciccoaabGreatDoorZL33
import Derived.Test.YtknakfpciccoaabGreatDoorZL25
import Derived.Test.YtknakfpciccoaabGreatDoorZL32
import Derived.Test.YtknakfpciccoaabGreatDoorZL21
/- The walk of a group's take. -/
set_option maxHeartbeats 8000000
set_option maxRecDepth 100000
namespace Go.Proofs.YtknakfpciccoaabGreatDoor
open Go.RowKit
def Ie (w0:World) (c:Nat) (NA:Option Addr) (nc:Nat) (bv ev:Value) (ops:List ByteArray) (r:Int⊕List (T×List T)) (w:World) (e:Ending) (w':World):Prop :=
 Below w0.heap.size w w'/\((∃ x,r=.inl x/\x≠0/\e=.returned (.int .i64 x))\/∃ st',r=.inr st'/\e=.returned (.int .i64 0)/\∃ L gv xs rb ys,jR w0 c NA nc bv ev ops L gv xs rb ys st' w')
theorem SH {gb:T->Int⊕T} {es:List (ByteArray×(T->Int⊕T))} {st:List (T×List T)} {doc:T} {x:Int} (h:gb doc=.inl x):nP gb es st doc=.inl x:=by
 unfold nP;rw [h]
theorem SI {gb:T->Int⊕T} {es:List (ByteArray×(T->Int⊕T))} {st:List (T×List T)} {doc t:T} {x:Int} (h:gb doc=.inr t) (h2:jv doc es 0 ((fZ es.length st t)[fD st t]'(lV _ _ _)).2=.inl x):nP gb es st doc=.inl x:=by
 unfold nP;rw [h];show (match jv doc es 0 ((fZ es.length st t)[fD st t]'(lV _ _ _)).2 with | .inl x=>Sum.inl x | .inr a=>Sum.inr (iQ (fZ es.length st t) (fD st t) a))=_;rw [h2]
theorem ZR {gb:T->Int⊕T} {es:List (ByteArray×(T->Int⊕T))} {st:List (T×List T)} {doc t:T} {a:List T} (h:gb doc=.inr t) (h2:jv doc es 0 ((fZ es.length st t)[fD st t]'(lV _ _ _)).2=.inr a):nP gb es st doc=.inr (iQ (fZ es.length st t) (fD st t) a):=by
 unfold nP;rw [h];show (match jv doc es 0 ((fZ es.length st t)[fD st t]'(lV _ _ _)).2 with | .inl x=>Sum.inl x | .inr a=>Sum.inr (iQ (fZ es.length st t) (fD st t) a))=_;rw [h2]
theorem SK {Tb:World->Prop} (hL:aS Tb) (w0:World) (c:Nat) (NA:Option Addr) (nc:Nat) (bv ev:Value) (es:List (ByteArray×(T->Int⊕T))) (ops:List ByteArray) (hops:ops=es.map Prod.fst) (L:Nat->uS) (gv:Value) (xs:List Value) (rb:Nat->Nat) (ys:Nat->List Value) (st:List (T×List T)) (doc:T) (x:Value) (w:World) (ks:List ByteArray) (gb:T->Int⊕T) (hI:jR w0 c NA nc bv ev ops L gv xs rb ys st w) (hb0:Below w0.heap.size w0 w) (hk:bO w0 (.slice NA (ops.length+1) nc) ks) (hby:bL Tb w0 bv gb) (hes:qN Tb w0 ev es) (hn:st.length<=999999) (hl:∀ i,(h:i<st.length)->∀ j,(∃ hj:j<ops.length,ops[j]=fK)->nL (st[i].2.getD j aL)<=999999) (hd:At w0 13 x doc) (hok:bM doc) (hT:Tb w0) :
  Calls Tryz.prog 239 #[.pointer (some ⟨c,0,none⟩),x] w (Ie w0 c NA nc bv ev ops (nP gb es st doc) w):=by
 obtain ⟨g1,La,Ka,Lc,Kc,hg1,hx,hj1,hj2,hj3⟩:=hd.open;clear hj1 hj2 hj3;obtain ⟨ty,p,fid,rfl,hm,hcall,o7⟩:=hby;have HD:=aj (And.intro hd hok);have HI:=aj hI;have HB0:=aj hb0;have Hk:=aj hk;have Hes:=aj hes;have Hn:=aj hn;have Hl:=aj hl;have Ot:=aj hops;have HT:Hid (∀ w':World,Below w0.heap.size w0 w'->Tb w'):=fun w' hb=>hL w0 hT w0 w' hT hb;have uo:=aj (aQ w (vC doc La Lc Ka Kc));have HX:=aj (aJ w (.int .i64 (ah doc)) (.int .i64 (au doc)) (.string (ay doc)) (.slice La (nL doc) Lc) (.slice Ka (nK doc) Kc));have HI1:=aj (hI.keep uo.out);have hcl:=aj (hI.low c (by rw [hI.lc];intro e;cases e));have HC:Hid (∀ wx,Below w.heap.size w wx->_):=fun wx hq=>o7 w0 wx x doc (Below.refl _ _) (hb0.trans (hq.mono hb0.size)) hd hok (HT.out wx (hb0.trans (hq.mono hb0.size)));rw [hx] at HC;have hmw:=hm;subst hx;clear hI hb0 hk hes hn hl hops hd hok hT hL o7 hm hg1;go_in;go_upto_region 1 with fail
 go_cut [5,6] (fun s5 s6 wx=>∃ (bx:Nat) (vk vn:Int) (vs:ByteArray) (VA:Option Addr) (vl VB:Nat) (VC:Option Addr) (vm VD:Nat) (er:Int),s5=.pointer (some ⟨bx,0,none⟩)/\s6=.int .i64 er/\Hid (Below w.heap.size w wx/\aH bx (.int .i64 vk) (.int .i64 vn) (.string vs) (.slice VA vl VB) (.slice VC vm VD) wx/\aH w.heap.size (.int .i64 (ah doc)) (.int .i64 (au doc)) (.string (ay doc)) (.slice La (nL doc) Lc) (.slice Ka (nK doc) Kc) wx/\w.heap.size<wx.heap.size)/\Hid ((gb doc=.inl er/\er≠0)\/∃ t A B C D,gb doc=.inr t/\er=0/\Value.agg #[.int .i64 vk,.int .i64 vn,.string vs,.slice VA vl VB,.slice VC vm VD]=.agg #[.int .i64 (ah t),.int .i64 (au t),.string (ay t),.slice A (nL t) B,.slice C (nK t) D]/\At w0 13 (.agg #[.int .i64 (ah t),.int .i64 (au t),.string (ay t),.slice A (nL t) B,.slice C (nK t) D]) t/\bM t))
 case first =>
  clear HD Hk Hes Hn Hl Ot HB0 HI hcl;have c2a:=HI1.out.c2;have za:=aj (uo.out.alloc uo.out.size (.cells #[.int .i64 0,.int .i64 0,.string ⟨#[]⟩,.slice none 0 0,.slice none 0 0] 36));have aiT:=aj (HI1.out.keep ((Below.refl _ _).alloc (Nat.le_refl _) (.cells #[.int .i64 0,.int .i64 0,.string ⟨#[]⟩,.slice none 0 0,.slice none 0 0] 36)));have c2b:=aiT.out.c2;have HXz:=aj (HX.out.stay ((Below.refl _ _).alloc (Nat.le_refl _) (.cells #[.int .i64 0,.int .i64 0,.string ⟨#[]⟩,.slice none 0 0,.slice none 0 0] 36)));have ZP:=aj uo.out.drew;have rA:=aj za.out.drew;have r0:=HX.out.q0;have r1:=HX.out.q1;have r2:=HX.out.q2;have r3:=HX.out.q3;have r4:=HX.out.q4;have s0:=HXz.out.q0;have s1:=HXz.out.q1;have s2:=HXz.out.q2;have s3:=HXz.out.q3;have s4:=HXz.out.q4
  have HZ:Hid (aH (w.heap.size+1) (.int .i64 0) (.int .i64 0) (.string ⟨#[]⟩) (.slice none 0 0) (.slice none 0 0) ((w.alloc (vC doc La Lc Ka Kc)).alloc (.cells #[.int .i64 0,.int .i64 0,.string ⟨#[]⟩,.slice none 0 0,.slice none 0 0] 36))):=by
   constructor<;>simp [go_sem]
  go_region_law (first | (go_simp;with_reducible refine Calls.mono (HC.out _ ZP.out) ?_;rintro e w2 he;obtain ⟨b2,vk,vn,vs,VA,vl,VB,VC,vm,VD,er,rfl,hc⟩:=jr.flat he;have HB2:=aj (ZP.out.trans (b2.mono ZP.out.size));have j5:=aj (HX.out.stay ((ak _).trans (b2.mono (ak _).size)));have HCC:=aj hc;have HFin:=aj (And.intro (HB2.out.alloc HB2.out.size (.cells #[.int .i64 vk,.int .i64 vn,.string vs,.slice VA vl VB,.slice VC vm VD] 36)) (And.intro (aJ w2 (.int .i64 vk) (.int .i64 vn) (.string vs) (.slice VA vl VB) (.slice VC vm VD)) (And.intro (j5.out.stay ((Below.refl _ _).alloc (Nat.le_refl _) (.cells #[.int .i64 vk,.int .i64 vn,.string vs,.slice VA vl VB,.slice VC vm VD] 36))) (Nat.lt_of_lt_of_le j5.out.lt ((Below.refl w2.heap.size w2).alloc (Nat.le_refl _) (.cells #[.int .i64 vk,.int .i64 vn,.string vs,.slice VA vl VB,.slice VC vm VD] 36)).size))));clear b2 hc he;dsimp only) | (go_simp;with_reducible refine Calls.mono (HC.out _ rA.out) ?_;rintro e w2 he;obtain ⟨b2,vk,vn,vs,VA,vl,VB,VC,vm,VD,er,rfl,hc⟩:=jr.flat he;have HB2:=aj (rA.out.trans (b2.mono rA.out.size));have j5:=aj (HXz.out.stay ((ak _).trans (b2.mono (ak _).size)));have HZ2:=aj (HZ.out.stay ((ak _).trans (b2.mono (ak _).size)));have HCC:=aj hc;have n0:=HZ2.out.q0;have n1:=HZ2.out.q1;have n2:=HZ2.out.q2;have n3:=HZ2.out.q3;have n4:=HZ2.out.q4;have m0:=HZ2.out.f0;have m1:=HZ2.out.f1;have m2:=HZ2.out.f2;have m3:=HZ2.out.f3;have m4:=HZ2.out.f4;have HFin:=aj (And.intro (aU HB2.out (b:=w.heap.size+1) (by omega) (by have:=HZ2.out.lt;omega) (.int .i64 vk) (.int .i64 vn) (.string vs) (.slice VA vl VB) (.slice VC vm VD)) (And.intro (HZ2.out.bG (.int .i64 vk) (.int .i64 vn) (.string vs) (.slice VA vl VB) (.slice VC vm VD)) (And.intro (j5.out.move (w':=bG w2 (w.heap.size+1) (.int .i64 vk) (.int .i64 vn) (.string vs) (.slice VA vl VB) (.slice VC vm VD)) (by rw [jA];exact Nat.le_refl _) (iA w2 (by omega) (.int .i64 vk) (.int .i64 vn) (.string vs) (.slice VA vl VB) (.slice VC vm VD))) (show w.heap.size<(bG w2 (w.heap.size+1) (.int .i64 vk) (.int .i64 vn) (.string vs) (.slice VA vl VB) (.slice VC vm VD)).heap.size by rw [jA];exact j5.out.lt))));clear b2 hc he;dsimp only))
  all_goals
   go_wp2_with fail;go_meet;unfold bG at HFin;exact ⟨_,_,_,_,_,_,_,_,_,_,_,rfl,rfl,HFin,HCC⟩
 case rest =>
  obtain ⟨bx,vk,vn,vs,VA,vl,VB,VC,vm,VD,er,rfl,rfl,HF,HG⟩:=hcut;have ZO:=aj HB0.out.size;rcases HG.out with ⟨h1,h2⟩ | ⟨t,A,B,C,D,h1,rfl,h3,h4,h5⟩
  ·have ez:(er==0)=false:=by simpa using h2
   have vJ:Hid (Ie w0 c NA nc (.iface ty p) ev ops (nP gb es st doc) w (.returned (.int .i64 er)) wc):=by
    exact ⟨HF.out.1.mono ZO.out,.inl ⟨er,SH h1,h2,rfl⟩⟩
   clear h1 h2 HG HF HC HI HI1 HX uo HD Hes Hl Ot Hk HB0 Hn hcl hmw hcall;go_wp2_with fail;go_ret;exact vJ.out
  ·have Ht:=aj (And.intro h1 (And.intro h4 h5));simp only [Value.agg.injEq,Array.mk.injEq,List.cons.injEq,and_true,Value.int.injEq,true_and,Value.string.injEq,Value.slice.injEq] at h3;obtain ⟨rfl,rfl,rfl,⟨rfl,rfl,rfl⟩,rfl,rfl,rfl⟩:=h3;have Hlen:Hid (ops.length=es.length):=by show _=_;rw [Ot.out,List.length_map]
   have HI3:=aj (HI.out.keep HF.out.1);have af9:=aj (HB0.out.trans (HF.out.1.mono HB0.out.size));obtain ⟨EA,ec,hev,hen,hee⟩:=Hes.out;clear Hes;subst hev;have Hee:=aj hee;have Hen:=aj hen;have HGa:=aj (Ic w0 c NA nc (.iface ty p) (.slice EA es.length ec) ops L gv xs rb ys st t VA VC VB VD wc ks HI3.out af9.out Hk.out (by rw [Hlen.out];exact hen) (by have:=Hn.out;omega) h4 h5);have HY:=aj HF.out.2.1;have HDo:=aj (HF.out.2.2);have HBF:=aj HF.out.1
   have HLd:Hid (L w.heap.size=.no):=by
    show _=_;cases hc:L w.heap.size with
    | no=>rfl
    | _=>exact absurd (HI.out.low w.heap.size (by rw [hc];intro e;cases e)).2 (by omega)
   clear h1 h4 h5 hee hen HG HF HC HI1 HX uo hmw hcall Hk HI3;have y0:=HY.out.q0;have y1:=HY.out.q1;have y2:=HY.out.q2;have y3:=HY.out.q3;have y4:=HY.out.q4;go_wp2_with fail;refine HGa.out.mono ?_;rintro e w4 ⟨b4,L4,gv4,xs4,rb4,ys4,hI4,hL4,o,ho,rfl⟩;rw [Hlen.out] at hI4;have hdl:=hL4 w.heap.size HDo.out.2 HLd.out;have HD4:=aj (HDo.out.1.move b4.size hdl.2);have bT:=aj ((HBF.out.mono ZO.out).trans b4);have HIS:=aj (lV es.length st t);have Hst:Hid (∃ a L' ys',jv doc (es.take 0) 0 ((fZ es.length st t)[fD st t]'(lV _ _ _)).2=.inr a/\jR w0 c NA nc (.iface ty p) (.slice EA es.length ec) ops L' gv4 xs4 rb4 ys' (iQ (fZ es.length st t) (fD st t) a) w4/\L' w.heap.size=.no):=⟨_,L4,ys4,rfl,by rw [Oq];exact hI4,hdl.1⟩;have c34:=hI4.c3;have Ho:=aj ho;have hel:¬ (es.length:Int)<0:=by omega
   clear b4 hI4 hL4 hdl ho HGa HDo HBF af9 HLd HI HY y0 y1 y2 y3 y4;go_wp2_with fail;go_loopg [30] es.length (fun g i wr=>∃ k:Nat,g=es.length - k/\k<=es.length/\i=.int .i64 k/\Hid (∃ a L' ys',jv doc (es.take k) 0 ((fZ es.length st t)[fD st t]'(lV _ _ _)).2=.inr a/\jR w0 c NA nc (.iface ty p) (.slice EA es.length ec) ops L' gv4 xs4 rb4 ys' (iQ (fZ es.length st t) (fD st t) a) wr/\L' w.heap.size=.no)/\Hid (Below w0.heap.size w wr)/\Hid (aH w.heap.size (.int .i64 (ah doc)) (.int .i64 (au doc)) (.string (ay doc)) (.slice La (nL doc) Lc) (.slice Ka (nK doc) Kc) wr))
   case atStart=>exact ⟨0,rfl,Nat.zero_le _,rfl,Hst,bT,HD4⟩
   case round =>
    obtain ⟨k,rfl,hk,rfl,HR,Qh,YW⟩:=hrel;have BQ:=aj (HB0.out.trans Qh.out);by_cases hlt:k<es.length
    ·obtain ⟨a,L',ys',hrow,hG,ZQ⟩:=HR.out;obtain ⟨b,o',u,rfl,hbl,p0,p1,hex,agb⟩:=Hee.out k hlt
     obtain ⟨ty2,p2,hu⟩:∃ ty2 p2,u=.iface ty2 p2:=by
      obtain ⟨a1,b1,_,h,_⟩:=hex;exact ⟨a1,b1,h⟩
     subst hu;have hko:k<ops.length:=by rw [Hlen.out];exact hlt
     have adk:ops[k]=es[k].1:=by
      have h:=Ot.out;subst h;exact List.getElem_map ..
     have hin:fD st t<(iQ (fZ es.length st t) (fD st t) a).length:=by rw [qd];exact HIS.out
     obtain ⟨s,sA,sB,sC,sD,hs0,hsf⟩:=hG.shape (i:=fD st t) (j:=k) hin hko;have hs1:s=a.getD k aL:=by rw [hs0,Fp _ _ _ HIS.out]
     have hs2:ops[k]=fK->nL s<=999999:=fun hg=>by
      rw [hs1,Fq doc _ 0 _ _ hrow k (by rw [List.length_take];omega)];exact Xd t Hl.out k ⟨hko,hg⟩
     obtain ⟨op,hop⟩:∃ op,es[k].1=op:=⟨_,rfl⟩;obtain ⟨gk,hgk⟩:∃ gk,es[k].2=gk:=⟨_,rfl⟩;rw [hgk] at hex;rw [hop] at p0;have p0r:=(BQ.out.cell (p:=⟨b,o'+k*2,none⟩) hbl).trans p0;have p1r:=(BQ.out.cell (p:=⟨b,o'+k*2+1,none⟩) hbl).trans p1;have fF:=aj (aQ wr (.cells #[.string op,.iface ty2 p2] 239));have oz:Hid (Below wr.heap.size wr (wr.alloc (.cells #[.string op,.iface ty2 p2] 239)).drew):=fF.out.drew;have HG2:=aj (hG.keep oz.out);have HDd:=aj (YW.out.stay oz.out);have HDa:=aj (YW.out.stay fF.out);have xL:=aj (Qh.out.trans (oz.out.mono (Nat.le_trans ZO.out Qh.out.size)));have Xe:=aj (HB0.out.trans xL.out);have HLd:=aj ZQ;obtain ⟨⟨e0,e1,e2,e3,e4⟩,hfz⟩:=(hG.keep fF.out).cells5 hin hko hsf rfl;have HCg:=aj (Oo w0 c NA nc (.iface ty p) (.slice (some ⟨b,o',none⟩) es.length ec) ops L' gv4 xs4 rb4 ys' (iQ (fZ es.length st t) (fD st t) a) _ HG2.out Xe.out (fD st t) k hin hko (by rw [adk];exact agb) (.iface ty2 p2) gk hex doc _ HD.out.1 HD.out.2 (fun w' hb=>HT.out w' (Xe.out.trans (hb.mono Xe.out.size))) (fun hg=>by rw [<- hs0];have:=hs2 hg;omega));rw [hsf,adk,hop,<- hs0] at HCg;have adn:=aj (fun e w6 h=>adi (e:=e) (w6:=w6) (r:=qc gk op s doc) HG2.out hin hko xL.out HDd.out ZQ h hsf);have Xf:=aj (And.intro hrow (And.intro hs1 (And.intro hop hgk)));have ho5:o=5:=Ho.out (fun e=>by rw [e] at hko;exact absurd hko (Nat.not_lt_zero _));subst ho5
     have Yu:Hid (es.take (k+1)=es.take k++[es[k]]):=by show _=_;rw [List.take_add_one,List.getElem?_eq_getElem hlt];rfl
     have HE2:Hid (es=es.take k++es[k]::es.drop (k+1)):=by show _=_;rw [<- List.drop_eq_getElem_cons hlt,List.take_append_drop]
     have lJ:Hid ((es.take k).length=k):=by show _=_;rw [List.length_take];omega
     have x1:(k:Int)<(es.length:Int):=by omega
     have x2:¬ (k:Int)<0:=by omega
     have x3:(k:Int)<(ops.length:Int):=by omega
     clear hrow hG hs0 hs1 hs2 hop hgk adk agb hex p0 p1 HR hsf ZQ YW hbl;go_upto_region 8 with fail;go_cut [6] from 31 to 51 (fun s6 wx=>∃ er:Int,s6=.int .i64 er/\Hid (Below w0.heap.size w wx/\aH w.heap.size (.int .i64 (ah doc)) (.int .i64 (au doc)) (.string (ay doc)) (.slice La (nL doc) Lc) (.slice Ka (nK doc) Kc) wx)/\Hid ((qc gk op s doc=.inl er/\er≠0)\/∃ t',qc gk op s doc=.inr t'/\er=0/\∃ L2 ys2,jR w0 c NA nc (.iface ty p) (.slice (some ⟨b,o',none⟩) es.length ec) ops L2 gv4 xs4 rb4 ys2 (qW (iQ (fZ es.length st t) (fD st t) a) (fD st t) k t') wx/\L2 w.heap.size=.no))
     case first =>
      clear Yu HE2 lJ Xf bT HD4 Hst Hee Hen HD HT Hn Hl Ot Hlen hcl Ht Qh BQ fF HIS c34;have d0:=HDa.out.q0;have d1:=HDa.out.q1;have d2:=HDa.out.q2;have d3:=HDa.out.q3;have d4:=HDa.out.q4;go_region_law (go_simp;go_wp2_with (go_at_call 241;refine HCg.out.mono ?_;rintro e w6 he;obtain ⟨vk,vn,vs,VA2,vl,VB2,VC2,vm,VD2,er,rfl,⟨g0,g1,g2,g3,g4⟩,hz,CZ,F5⟩:=adn.out _ _ he;have z0:=hz (5+k*5);have z1:=hz (5+k*5+1);have z2:=hz (5+k*5+2);have z3:=hz (5+k*5+3);have z4:=hz (5+k*5+4);clear he hz))
      all_goals
       go_wp2_with fail;go_meet;unfold bN at CZ F5;exact ⟨_,rfl,CZ,F5⟩
     case rest =>
      obtain ⟨er,rfl,CZ,F5⟩:=hcut;rcases F5.out with ⟨h1,h2⟩ | ⟨t',h1,rfl,L2,ys2,h3,h4⟩
      ·have ez:(er==0)=false:=by simpa using h2
       have vJ:Hid (Ie w0 c NA nc (.iface ty p) (.slice (some ⟨b,o',none⟩) es.length ec) ops (nP gb es st doc) w (.returned (.int .i64 er)) wc):=by
        have h5:=KX doc (es.take k) es[k] (es.drop (k+1)) 0 _ a er Xf.out.1 (by rw [lJ.out,Nat.zero_add,Xf.out.2.2.2,Xf.out.2.2.1,<- Xf.out.2.1];exact h1);rw [<- HE2.out] at h5;exact ⟨CZ.out.1,.inl ⟨er,SI Ht.out.1 h5,h2,rfl⟩⟩
       clear h1 h2 CZ F5 HCg adn HG2 HDd HDa xL Xe HLd Xf Yu HE2 lJ Hst bT HD4 Hee Hen HD HT Hn Hl Ot Hlen hcl Ht Qh BQ fF oz HIS c34 e0 e1 e2 e3 e4 hfz p0r p1r;go_wp2_with fail;go_ret;exact vJ.out
      ·have HR2:Hid (∃ a L' ys',jv doc (es.take (k+1)) 0 ((fZ es.length st t)[fD st t]'(lV _ _ _)).2=.inr a/\jR w0 c NA nc (.iface ty p) (.slice (some ⟨b,o',none⟩) es.length ec) ops L' gv4 xs4 rb4 ys' (iQ (fZ es.length st t) (fD st t) a) wc/\L' w.heap.size=.no):=by
        have h5:=Fj doc (es.take k) es[k] 0 _ a t' Xf.out.1 (by rw [lJ.out,Nat.zero_add,Xf.out.2.2.2,Xf.out.2.2.1,<- Xf.out.2.1];exact h1);rw [lJ.out,Nat.zero_add,<- Yu.out] at h5;exact ⟨a.set k t',L2,ys2,h5,by rw [<- SG];exact h3,h4⟩
       have afm:es.length<=100000:=Hen.out;have rA:=aj CZ.out.1;have GH:=aj CZ.out.2;clear h1 h3 h4 CZ F5 HCg adn HG2 HDd HDa xL Xe HLd Xf Yu HE2 lJ Qh BQ fF oz e0 e1 e2 e3 e4 hfz p0r p1r;go_wp2_with fail;go_roundg (es.length - (k+1))
       case rel=>exact ⟨k+1,rfl,by omega,by go_num,HR2,rA,GH⟩
       case measure=>omega
    ·obtain rfl:k=es.length:=by omega
     have vJ:Hid (Ie w0 c NA nc (.iface ty p) (.slice EA es.length ec) ops (nP gb es st doc) w (.returned (.int .i64 0)) wr):=by
      obtain ⟨a,L',ys',hrow,hG,ZQ⟩:=HR.out;rw [List.take_length] at hrow;exact ⟨Qh.out,.inr ⟨_,ZR Ht.out.1 hrow,rfl,L',gv4,xs4,rb4,ys',hG⟩⟩
     have x1:¬ (es.length:Int)<(es.length:Int):=by omega
     clear HR Qh YW BQ Hst bT HD4 Hee Hen HD HT Hn Hl Ot Hlen hcl Ht HIS c34;go_wp2_with fail;go_ret;exact vJ.out
theorem SL {σ:Type} (st:σ->T->Int⊕σ) (I:Nat->σ->World->Prop) (gid:FuncId) (aii:∀ (a:Array Value) (w:World),(callFunc gid a).run Tryz.prog w=.ok (.enter gid a) w) (pv:Value) (c:Nat) (La:Option Addr) (Lc:Nat) (l:List T) (s:σ) (w0 w:World) (hn:l.length<=1000000) (hI:I 0 s w)
  (hIc:∀ k s w,I k s w->∃ v,w.cell? ⟨c,0,none⟩=some v) (hIl:∀ k s w,I k s w->w0.heap.size<=w.heap.size)
  (hst:∀ k s d wr,(h:k<l.length)->l[k]=d->I k s wr->∃ bb oo A B C D,La=some ⟨bb,oo,none⟩/\wr.cell? ⟨bb,oo+k*5,none⟩=some (.int .i64 (ah d))/\wr.cell? ⟨bb,oo+k*5+1,none⟩=some (.int .i64 (au d))/\wr.cell? ⟨bb,oo+k*5+2,none⟩=some (.string (ay d))/\wr.cell? ⟨bb,oo+k*5+3,none⟩=some (.slice A (nL d) B)/\wr.cell? ⟨bb,oo+k*5+4,none⟩=some (.slice C (nK d) D)/\∀ wx,Below wr.heap.size wr wx->Calls Tryz.prog gid #[pv,.agg #[.int .i64 (ah d),.int .i64 (au d),.string (ay d),.slice A (nL d) B,.slice C (nK d) D]] wx (GZ st s (I (k+1)) d w0 wx)) :
  Calls Tryz.prog 225 #[.pointer (some ⟨c,0,none⟩),.slice La l.length Lc,.func (Fn.func gid) #[pv] #[]] w (Wn st s (I l.length) c l w0 w):=by
 have HI:=aj hI;have HIc:=aj hIc;have HIl:=aj hIl;have sw:=aj hst;clear hI hIc hst hIl;obtain ⟨n,hln⟩:∃ n,l.length=n:=⟨_,rfl⟩;have Qc:=aj hln;rw [hln] at hn ⊢;clear hln;go_in;go_wp2_with fail;go_loopg [14] n (fun g i wr=>∃ (k:Nat) (s':σ),g=n - k/\k<=n/\i=.int .i64 k/\Hid (Below w0.heap.size w wr)/\Hid (I k s' wr)/\Hid (dz st (l.take k) 0 s=.inr s'))
 case atStart=>exact ⟨0,s,rfl,Nat.zero_le _,rfl,Below.refl _ _,HI,rfl⟩
 case round =>
  obtain ⟨k,s',rfl,hk,rfl,HB,HS,HE⟩:=hrel;by_cases hlt:k<n
  ·have hkl:k<l.length:=by rw [Qc.out];exact hlt
   have HG:Hid (l.take (k+1)=l.take k++[l[k]]):=by show _=_;rw [List.take_add_one,List.getElem?_eq_getElem hkl];rfl
   have HG2:Hid (l=l.take k++l[k]::l.drop (k+1)):=by show _=_;rw [<- List.drop_eq_getElem_cons hkl,List.take_append_drop]
   have HGl:Hid ((l.take k).length=k):=by show _=_;rw [List.length_take];omega
   have HQ:=aj (sw.out k s' l[k] wr hkl rfl HS.out);generalize l[k]=d at HG HG2 HQ;obtain ⟨bb,oo,A,B,C,D,rfl,p0,p1,p2,p3,p4,hq⟩:=HQ.out;have vO:=aj (aQ wr (vC d A B C D));have HC:=aj (hq _ vO.out);have HLw:=aj (HIl.out _ _ _ HS.out);clear hq HQ;go_wp2_with fail;refine HC.out.mono ?_;rintro e w2 ⟨b2,⟨x,hx,hne,rfl⟩ | ⟨s2,hx,rfl,hI2⟩⟩
   ·have ez:(x==0)=false:=by simpa using hne
    have HF:Hid (dz st l 0 s=.inl (k,x)/\x≠0):=⟨by have:=yu st _ _ (l.drop (k+1)) 0 s s' x HE.out hx;rw [<- HG2.out,HGl.out,Nat.zero_add] at this;exact this,hne⟩;have dF:=aj ((HB.out.trans (vO.out.mono HLw.out)).trans b2);clear b2 hx hne HC;go_wp2_with fail;refine bodyPost_ret (v:=.tuple #[.slice none 0 0,.int .i64 (k:Nat),.int .i64 x]) (by simp [results,Tryz.results225,go_sem, *]) rfl ?_;exact ⟨dF.out,.inl ⟨k,x,HF.out.1,HF.out.2,rfl⟩⟩
   ·have HE2:Hid (dz st (l.take (k+1)) 0 s=.inr s2):=by show _=_;rw [HG.out];exact vG st _ _ 0 s s' s2 HE.out hx
    have dF:=aj ((HB.out.trans (vO.out.mono HLw.out)).trans b2);have HI2:=aj hI2;clear b2 hx HC hI2;go_wp2_with fail;go_roundg (n - (k+1))
    case rel=>exact ⟨k+1,s2,rfl,by omega,by go_num,dF,HI2,HE2⟩
    case measure=>omega
  ·obtain rfl:k=n:=by omega
   have HF:Hid (dz st l 0 s=.inr s'):=by
    have h1:=HE.out;rw [<- Qc.out,List.take_length] at h1;exact h1
   obtain ⟨v,hv⟩:=HIc.out _ s' wr HS.out;go_wp2_with fail;refine bodyPost_ret (v:=.tuple #[v,.int .i64 0,.int .i64 0]) (by simp [results,Tryz.results225,go_sem, *]) rfl ?_;exact ⟨HB.out,.inr ⟨s',v,HF.out,HS.out,hv,rfl⟩⟩
theorem qg.up1 {p:Nat->Prop} {w:World}:∀ {f:Nat} {v:Value} {t:T},qg p w f v t->qg p w (f+1) v t:=by
 intro f
 induction f with
 | zero=>intro v t h;exact h.elim
 | succ f ih =>
  rintro v t ⟨La,Ka,Lc,Kc,rfl,hf,hl,hk⟩;refine ⟨La,Ka,Lc,Kc,rfl,hf,fun i hi=>?_,hk⟩;obtain ⟨b,o,c0,c1,c2,c3,c4,h0,hb,q0,q1,q2,q3,q4,ha⟩:=hl i hi;exact ⟨b,o,c0,c1,c2,c3,c4,h0,hb,q0,q1,q2,q3,q4,ih ha⟩
theorem xu.atP {w0:World} {L:Nat->uS} {w:World} {i j c:Nat} {op:ByteArray} {v:Value} {a:T} (h:xu w0 L w i j op v a) (hb:Below w0.heap.size w0 w) (hc:w0.heap.size<=c) (hL:L c=.box):qg (fun b=>b≠c) w 14 v a:=by
 rcases h with ⟨_,h,_⟩ | ⟨_,A,B,zs,rfl,h3,h4,h5,h6,h7⟩
 ·exact (At.toP (fun b h=>by omega) hb h).up1
 ·have hk:nK a=0:=by
   rcases h3 with h3 | h3
   ·rw [h3];rfl
   ·rw [h3];rfl
  have hz:zs.length=nL a*5:=h4.1
  have hfit:-9223372036854775808<=ah a/\ah a<=9223372036854775807/\au a=0/\ay a=ByteArray.empty:=by
   rcases h3 with h3 | h3
   ·rw [h3];exact ⟨by show -9223372036854775808<=(0:Int);omega,by show (0:Int)<=_;omega,rfl,rfl⟩
   ·rw [h3];exact ⟨by show -9223372036854775808<=(5:Int);omega,by show (5:Int)<=_;omega,rfl,rfl⟩
  refine ⟨A,none,B,0,by rw [hk],⟨hfit.1,hfit.2.1,by rw [hfit.2.2.1];omega,by rw [hfit.2.2.1];omega,by rw [hfit.2.2.2];show (0:Nat)<=_;omega,by omega,by omega⟩,fun k hk'=>?_,fun k hk'=>by omega⟩;rcases h4.2 with ⟨_,h0⟩ | ⟨g,cap,cur,h',hb0,hg,rest⟩
  ·omega
  ·simp only [Value.slice.injEq,true_and] at h';obtain ⟨rfl,rfl⟩:=h';have hcl:∀ r,r<5->w.cell? ⟨g,k*5+r,none⟩=some (cx zs (k*5+r)):=fun r hr=>aW h4 (dR (by omega));refine ⟨g,0,cx zs (k*5),cx zs (k*5+1),cx zs (k*5+2),cx zs (k*5+3),cx zs (k*5+4),rfl,⟨(Array.getElem?_eq_some_iff.1 hg).1,fun e=>?_⟩,(by rw [Nat.zero_add];exact hcl 0 (by omega)),(by rw [Nat.zero_add];exact hcl 1 (by omega)),(by rw [Nat.zero_add];exact hcl 2 (by omega)),(by rw [Nat.zero_add];exact hcl 3 (by omega)),(by rw [Nat.zero_add];exact hcl 4 (by omega)),?_⟩
   ·have:=h6 g rfl;rw [e,hL] at this;cases this
   ·exact At.toP (fun b h=>by omega) hb (h7 k hk').1
theorem jR.aiV {w0:World} {c:Nat} {NA:Option Addr} {nc:Nat} {bv ev:Value} {ops:List ByteArray} {L:Nat->uS} {gv:Value} {xs:List Value} {rb:Nat->Nat} {ys:Nat->List Value} {st:List (T×List T)} {w:World} (h:jR w0 c NA nc bv ev ops L gv xs rb ys st w) (hb:Below w0.heap.size w0 w) {ks:List ByteArray} (hk:bO w0 (.slice NA (ops.length+1) nc) ks) (ho:ops.length<=100000) {i:Nat} (hi:i<st.length):qg (fun b=>b≠c) w 15 (fv xs i) (gU ks st[i]):=by
 obtain ⟨C,D,e1,hkn,hks⟩:=hk;simp only [Value.slice.injEq] at e1;obtain ⟨rfl,e2,rfl⟩:=e1;have hcl:=h.low c (by rw [h.lc];intro e;cases e);have hlen:=h.len i hi;rw [h.el i hi];have hr:=h.row i hi;have hy:(ys i).length=(ops.length+1)*5:=hr.1;refine ⟨some ⟨rb i,0,none⟩,NA,ops.length+1,nc,?_,?_,fun j hj=>?_,fun j hj=>?_⟩
 ·unfold gU;rw [bE,fu,gD,aI,fE,List.length_cons,hlen,<- e2];rfl
 ·unfold gU;exact ⟨by rw [bE];omega,by rw [bE];omega,by rw [fu];omega,by rw [fu];omega,by rw [gD];show (0:Nat)<=_;omega,by rw [aI,List.length_cons,hlen];omega,by rw [fE];exact hkn⟩
 ·unfold gU at hj;rw [aI,List.length_cons,hlen] at hj;have hc:∀ r,r<5->w.cell? ⟨rb i,j*5+r,none⟩=some (cx (ys i) (j*5+r)):=fun r hr'=>aW hr (dR (by omega));refine ⟨rb i,0,cx (ys i) (j*5),cx (ys i) (j*5+1),cx (ys i) (j*5+2),cx (ys i) (j*5+3),cx (ys i) (j*5+4),rfl,⟨(hr.lt _ rfl).2,fun e=>?_⟩,(by rw [Nat.zero_add];exact hc 0 (by omega)),(by rw [Nat.zero_add];exact hc 1 (by omega)),(by rw [Nat.zero_add];exact hc 2 (by omega)),(by rw [Nat.zero_add];exact hc 3 (by omega)),(by rw [Nat.zero_add];exact hc 4 (by omega)),?_⟩
  ·have:=h.rl i hi;rw [e,h.lc] at this;cases this
  show qg _ w 14 (fv (ys i) j) (elt (gU ks st[i]) j);cases j with
  | zero=>exact (At.toP (fun b h=>by omega) hb (h.WZ i hi).1).up1
  | succ j =>
   have e3:elt (gU ks st[i]) (j+1)=st[i].2.getD j aL:=by
    unfold gU;rw [iR,List.getD_cons_succ,List.getD_eq_getElem?_getD,List.getD_eq_getElem?_getD,List.getElem?_eq_getElem (by omega)];rfl
   rw [e3];exact (h.acc i hi j (by omega)).atP hb hcl.1 h.lc
 ·unfold gU at hj;rw [fE] at hj;obtain ⟨b,o,h0,hbl,hsz,hc⟩:=hks j hj;unfold gU;refine ⟨b,o,h0,⟨Nat.lt_of_lt_of_le hbl hb.size,by omega⟩,?_,?_⟩
  ·rw [uV];exact hsz
  ·rw [uV,hb.cell (p:=⟨b,_,none⟩) hbl];exact hc
def KZ (made:List T) (d:T):Int⊕List T:=if bZ d then .inl 15 else .inr (made++[d])
theorem Qi:∀ (l:List T) (k:Nat) (s s':List T),dz KZ l k s=.inr s'->s'=s++l/\∀ i,(h:i<l.length)->bZ l[i]=false
 | [],k,s,s',h=>by
  simp only [dz,Sum.inr.injEq] at h;exact ⟨by rw [<- h,List.append_nil],fun i h=>absurd h (Nat.not_lt_zero i)⟩
 | d::r,k,s,s',h=>by
  simp only [dz] at h;cases hb:bZ d with
  | true =>
   rw [show KZ s d=.inl 15 by unfold KZ;rw [hb];rfl] at h;cases h
  | false =>
   rw [show KZ s d=.inr (s++[d]) by unfold KZ;rw [hb];rfl] at h;obtain ⟨h1,h2⟩:=Qi r (k+1) (s++[d]) s' h;refine ⟨by rw [h1,List.append_assoc];rfl,fun i hi=>?_⟩;cases i with
   | zero=>exact hb
   | succ i=>exact h2 i (by rw [List.length_cons] at hi;omega)
structure Xg (W2:World) (c:Nat) (Qj:List Value) (n:Nat) (v:Value) (xs:List Value) (w:World):Prop where
 made:Mk w c v n xs
 own:∀ b,v.ownBlock=some b->W2.heap.size<=b
 os:w.os=W2.os
 tape:w.tape=W2.tape
 output:w.output=W2.output
 size:W2.heap.size<=w.heap.size
 block:∀ b,b<W2.heap.size->b≠c->w.heap[b]?=W2.heap[b]?
 el:∀ i,i<n->fv xs i=fv Qj i
theorem Xg.start {W2:World} {c:Nat} (Qj:List Value) (h0:W2.cell? ⟨c,0,none⟩=some (.slice none 0 0)) (hf:W2.frozen? ⟨c,0,none⟩=false) (hc:c<W2.heap.size):Xg W2 c Qj 0 (.slice none 0 0) [] W2 :=
 ⟨⟨h0,hf,hc,World.ownsRow_nil _ _ _ _,by simp [Value.ownBlock]⟩,fun b e=>by simp [Value.ownBlock] at e,rfl,rfl,rfl,Nat.le_refl _,fun _ _ _=>rfl,fun i hi=>absurd hi (Nat.not_lt_zero i)⟩
theorem Xg.keep {W2:World} {c:Nat} {Qj:List Value} {n:Nat} {v:Value} {xs:List Value} {w w':World} (h:Xg W2 c Qj n v xs w) (hb:Below w.heap.size w w'):Xg W2 c Qj n v xs w' :=
 ⟨h.made.keep hb,h.own,hb.os.trans h.os,hb.tape.trans h.tape,hb.output.trans h.output,Nat.le_trans h.size hb.size,fun b h1 h2=>(hb.block b (Nat.lt_of_lt_of_le h1 h.size)).trans (h.block b h1 h2),h.el⟩
theorem ZT {Tb:World->Prop} (hV:bJ Tb) (hL:aS Tb) (W2 w0 wr wx:World) (c n:Nat) (Qj:List Value) (v:Value) (xs:List Value) (made:List T) (t:T) (A C:Option Addr) (B D:Nat) (h:Xg W2 c Qj n v xs wr) (hb:Below wr.heap.size wr wx) (hn:n<=1000000) (hc:w0.heap.size<=c) (hcw:c<W2.heap.size) (hf:fv Qj n=.agg #[.int .i64 (ah t),.int .i64 (au t),.string (ay t),.slice A (nL t) B,.slice C (nK t) D]) (ha:qg (fun b=>b≠c) W2 15 (.agg #[.int .i64 (ah t),.int .i64 (au t),.string (ay t),.slice A (nL t) B,.slice C (nK t) D]) t) (hT:Tb wx) :
  Calls Tryz.prog 227 #[.pointer (some ⟨c,0,none⟩),.agg #[.int .i64 (ah t),.int .i64 (au t),.string (ay t),.slice A (nL t) B,.slice C (nK t) D]] wx (GZ KZ made (fun s' w'=>s'=made++[t]/\∃ v xs,Xg W2 c Qj (n+1) v xs w') t w0 wx):=by
 have h':=h.keep hb;have hat:qg (fun _=>True) wx 15 (.agg #[.int .i64 (ah t),.int .i64 (au t),.string (ay t),.slice A (nL t) B,.slice C (nK t) D]) t:=ha.move h'.size fun b h1 h2=>⟨True.intro,h'.block b h1 h2⟩;have hsz:=h'.size;refine (KJ hV hL c 15 t v n xs A C B D wx h'.made hn hat.at hT).mono ?_;rintro e w' (⟨b2,hbig,rfl⟩ | ⟨hB,hbig,rfl,hoff,g,cap,q0,f0,hg,hO⟩)
 ·exact ⟨b2.mono (by omega),.inl ⟨15,by unfold KZ;rw [hbig];rfl,by decide,rfl⟩⟩
 ·have hx:xs.length=n*5:=h'.made.row.1;have s2:=hB.size;have old:∀ b,b<W2.heap.size->b≠c->w'.heap[b]?=wx.heap[b]?:=fun b h1 h2=>hB.block b (by omega) h2 (fun e=>by have:=h'.own b e.symm;omega)
  have hgW:W2.heap.size<=g:=by
   rcases hg with hg | hg
   ·exact h'.own g hg
   ·omega
  refine ⟨⟨hB.os,hB.tape,hB.output,hB.size,fun b hb'=>old b (by omega) (by omega)⟩,.inr ⟨made++[t],by unfold KZ;rw [hbig];rfl,rfl,rfl,_,_,⟨q0,f0,by omega,hO,?_⟩,?_,hB.os.trans h'.os,hB.tape.trans h'.tape,hB.output.trans h'.output,by omega,fun b h1 h2=>(old b h1 h2).trans (h'.block b h1 h2),fun i hi=>?_⟩⟩
  ·simp only [Value.ownBlock,ne_eq,Option.some.injEq];omega
  ·intro b e;simp only [Value.ownBlock,Option.some.injEq] at e;omega
  ·by_cases e:i<n
   ·rw [p9 hx e];exact h'.el i e
   ·obtain rfl:i=n:=by omega
    rw [tX hx,hf]
theorem Xg.docs {W2:World} {c:Nat} {Qj:List Value} {v:Value} {xs:List Value} {w:World} {l:List T} (h:Xg W2 c Qj l.length v xs w) (hn:l.length<=1000000) (ha:∀ i,(h:i<l.length)->qg (fun b=>b≠c) W2 15 (fv Qj i) l[i]) (hs:∀ i,(h:i<l.length)->bZ l[i]=false):cu w v l:=by
 have h1:=h.made;have hx:xs.length=l.length*5:=h1.row.1;rcases h1.row.2 with ⟨rfl,h0⟩ | ⟨g,cap,cur,rfl,hb0,hg,hnc,hcm,rest⟩
 ·exact ⟨none,0,by rw [h0],hn,by omega,by omega,fun i hi=>by rw [aI] at hi;omega,fun i hi=>(qI (hs i hi)).2⟩
 ·refine ⟨_,_,rfl,hn,hnc,by unfold maxLen at hcm;omega,fun i hi=>?_,fun i hi=>(qI (hs i hi)).2⟩;rw [aI] at hi;have hc:∀ j,j<5->w.cell? ⟨g,i*5+j,none⟩=some (cx xs (i*5+j)):=fun j hj=>aW h1.row (dR (by omega));refine ⟨g,0,cx xs (i*5),cx xs (i*5+1),cx xs (i*5+2),cx xs (i*5+3),cx xs (i*5+4),rfl,(Array.getElem?_eq_some_iff.1 hg).1,(by rw [Nat.zero_add];exact hc 0 (by omega)),(by rw [Nat.zero_add];exact hc 1 (by omega)),(by rw [Nat.zero_add];exact hc 2 (by omega)),(by rw [Nat.zero_add];exact hc 3 (by omega)),(by rw [Nat.zero_add];exact hc 4 (by omega)),?_⟩;rw [dD l hi];show At w 13 (fv xs i) l[i];rw [h.el i hi];have h2:qg (fun _=>True) w 15 (fv Qj i) l[i]:=(ha i hi).move h.size fun b k1 k2=>⟨True.intro,h.block b k1 k2⟩;exact (h2.fit (qI (hs i hi)).1).at
theorem K7 (doc:T):∀ (es:List (ByteArray×(T->Int⊕T))) (k:Nat) (a a':List T),jv doc es k a=.inr a'->∀ j,j<k->a'.getD j aL=a.getD j aL
 | [],k,a,a',h,j,hj=>by
  simp only [jv,Sum.inr.injEq] at h;rw [h]
 | e0::es,k,a,a',h,j,hj=>by
  rw [jv] at h;cases h0:qc e0.2 e0.1 (a.getD k aL) doc with
  | inl y=>rw [h0] at h;cases h
  | inr t =>
   rw [h0] at h;rw [K7 doc es (k+1) (a.set k t) a' h j (by omega),List.getD_eq_getElem?_getD,List.getElem?_set_ne (by omega),<- List.getD_eq_getElem?_getD]
theorem ZU {g:T->Int⊕T} {op:ByteArray} {s doc t:T} (ho:op=fK) (h:qc g op s doc=.inr t):nL t<=nL s+1:=by
 unfold qc at h;rw [if_pos ho] at h;cases hg:g doc with
 | inl x=>rw [hg] at h;cases h
 | inr v =>
  rw [hg] at h;simp only [Sum.inr.injEq] at h;rw [<- h,aI,List.length_append];exact Nat.le_refl _
theorem Qk (doc:T):∀ (es:List (ByteArray×(T->Int⊕T))) (k:Nat) (a a':List T),jv doc es k a=.inr a'->∀ j,(hj:j<es.length)->es[j].1=fK->nL (a'.getD (k+j) aL)<=nL (a.getD (k+j) aL)+1
 | [],k,a,a',h,j,hj,_=>absurd hj (Nat.not_lt_zero j)
 | e0::es,k,a,a',h,j,hj,ho=>by
  rw [jv] at h;cases h0:qc e0.2 e0.1 (a.getD k aL) doc with
  | inl y=>rw [h0] at h;cases h
  | inr t =>
   rw [h0] at h;cases j with
   | zero =>
    rw [Nat.add_zero,K7 doc es (k+1) (a.set k t) a' h k (by omega)];by_cases hk:k<a.length
    ·rw [List.getD_eq_getElem?_getD,List.getElem?_set_self hk];exact ZU ho h0
    ·rw [List.getD_eq_getElem?_getD,List.getElem?_eq_none (by rw [List.length_set];omega)];exact Nat.zero_le _
   | succ j =>
    have:=Qk doc es (k+1) (a.set k t) a' h j (by rw [List.length_cons] at hj;omega) ho;rw [show k+1+j=k+(j+1) by omega] at this;rw [show (a.set k t).getD (k+(j+1)) aL=a.getD (k+(j+1)) aL by rw [List.getD_eq_getElem?_getD,List.getElem?_set_ne (by omega),<- List.getD_eq_getElem?_getD]] at this;exact this
theorem Xh (S:List (T×List T)) (i:Nat) (a:List T) {k:Nat} (hk:k<S.length) (h:¬ i=k):(iQ S i a)[k]'(by rw [qd];exact hk)=S[k]:=by
 unfold iQ;rw [List.getElem_modify,if_neg h]
theorem Fu {gb:T->Int⊕T} {es:List (ByteArray×(T->Int⊕T))} {st st':List (T×List T)} {doc:T} (h:nP gb es st doc=.inr st'):∃ b a,jv doc es 0 ((fZ es.length st b)[fD st b]'(lV _ _ _)).2=.inr a/\st'=iQ (fZ es.length st b) (fD st b) a:=by
 unfold nP at h;cases hg:gb doc with
 | inl x=>rw [hg] at h;cases h
 | inr b =>
  rw [hg] at h;dsimp only at h;cases hr:jv doc es 0 ((fZ es.length st b)[fD st b]'(lV _ _ _)).2 with
  | inl x=>rw [hr] at h;cases h
  | inr a =>
   rw [hr] at h;simp only [Sum.inr.injEq] at h;exact ⟨b,a,hr,h.symm⟩
theorem Xi (n:Nat) (st:List (T×List T)) (b:T):(fZ n st b).length<=st.length+1:=by
 unfold fZ;by_cases h:fD st b<st.length
 ·rw [if_pos h];omega
 ·rw [if_neg h,List.length_append];exact Nat.le_refl _
theorem Xj {gb:T->Int⊕T} {es:List (ByteArray×(T->Int⊕T))} {st st':List (T×List T)} {doc:T} (h:nP gb es st doc=.inr st'):st'.length<=st.length+1:=by
 obtain ⟨b,a,_,rfl⟩:=Fu h;rw [qd];exact Xi _ _ _
theorem ZV {gb:T->Int⊕T} {es:List (ByteArray×(T->Int⊕T))} {st st':List (T×List T)} {doc:T} {N:Nat} (h:nP gb es st doc=.inr st') (hl:∀ i,(h:i<st.length)->∀ j,(∃ hj:j<es.length,es[j].1=fK)->nL (st[i].2.getD j aL)<=N):∀ i,(h:i<st'.length)->∀ j,(∃ hj:j<es.length,es[j].1=fK)->nL (st'[i].2.getD j aL)<=N+1:=by
 obtain ⟨b,a,hr,rfl⟩:=Fu h;intro i hi j hj;have hi2:i<(fZ es.length st b).length:=by rw [qd] at hi;exact hi
 by_cases e:fD st b=i
 ·subst e;rw [Fp _ _ _ hi2];have h1:=Qk doc es 0 _ a hr j hj.1 hj.2;rw [Nat.zero_add] at h1;have h2:=Xd (n:=es.length) b hl j hj;omega
 ·have e1:(iQ (fZ es.length st b) (fD st b) a)[i]=(fZ es.length st b)[i]:=Xh _ _ _ hi2 e;rw [e1];have hle:fD st b<=st.length:=List.findIdx_le_length;by_cases e2:fD st b<st.length
  ·have e3:fZ es.length st b=st:=by unfold fZ;rw [if_pos e2]
   simp only [e3] at hi2 ⊢;have:=hl i hi2 j hj;omega
  ·have e3:fZ es.length st b=st++[(b,List.replicate es.length aL)]:=by unfold fZ;rw [if_neg e2]
   have hi3:i<st.length:=by
    rw [e3,List.length_append,List.length_cons,List.length_nil] at hi2;omega
   simp only [e3,List.getElem_append_left hi3];have:=hl i hi3 j hj;omega
theorem jR.start (w:World) (NA:Option Addr) (nc:Nat) (bv ev:Value) (ops:List ByteArray):jR w w.heap.size NA nc bv ev ops (fun b=>if b=w.heap.size then .box else .no) (.slice none 0 0) [] (fun _=>0) (fun _=>[]) [] (w.alloc (.cells #[.slice none 0 0,.slice NA (ops.length+1) nc,bv,ev,.slice none 0 0] 178)):=by
 refine ⟨if_pos rfl,fun b hb=>?_,by simp [go_sem],by simp [go_sem],by simp [go_sem],by simp [go_sem],by simp [go_sem],by simp [go_sem],by simp [go_sem],World.ownsRow_nil _ _ _ _,fun b e=>by simp [Value.ownBlock] at e,fun i hi=>absurd hi (Nat.not_lt_zero i),fun i hi=>absurd hi (Nat.not_lt_zero i),fun i hi=>absurd hi (Nat.not_lt_zero i),fun i hi=>absurd hi (Nat.not_lt_zero i),fun i hi=>absurd hi (Nat.not_lt_zero i),fun i hi=>absurd hi (Nat.not_lt_zero i)⟩;by_cases e:b=w.heap.size
 ·subst e;exact ⟨Nat.le_refl _,by simp⟩
 ·simp only [if_neg e] at hb;exact absurd rfl hb
def Ce (gb:T->Int⊕T) (es:List (ByteArray×(T->Int⊕T))) (ks:List ByteArray) (l:List T):(Nat×Int)⊕List T:=match dz (nP gb es) l 0 [] with
 | .inl e=>.inl e
 | .inr st=>dz KZ (st.map (gU ks)) 0 []
theorem Ou {w wr:World} {lo g n cap:Nat} {xs:List Value} (h:w.ownsRow lo 36 5 (.slice (some ⟨g,0,none⟩) n cap) n xs) {k:Nat} (hk:k<n) {u0 u1 u2 u3 u4:Value} (hf:fv xs k=.agg #[u0,u1,u2,u3,u4]) (hb:wr.heap[g]?=w.heap[g]?) :
  wr.cell? ⟨g,0+k*5,none⟩=some u0/\wr.cell? ⟨g,0+k*5+1,none⟩=some u1/\wr.cell? ⟨g,0+k*5+2,none⟩=some u2/\wr.cell? ⟨g,0+k*5+3,none⟩=some u3/\wr.cell? ⟨g,0+k*5+4,none⟩=some u4:=by
 have hx:xs.length=n*5:=h.1;unfold fv at hf;simp only [Value.agg.injEq,Array.mk.injEq,List.cons.injEq,and_true] at hf
 have hc:∀ r,r<5->wr.cell? ⟨g,0+k*5+r,none⟩=some (cx xs (k*5+r)):=fun r hr'=>by
  rw [aC hb,show 0+k*5+r=k*5+r by omega];exact aW h (dR (by omega))
 refine ⟨?_,?_,?_,?_,?_⟩
 ·rw [<- hf.1];exact hc 0 (by omega)
 ·rw [<- hf.2.1];exact hc 1 (by omega)
 ·rw [<- hf.2.2.1];exact hc 2 (by omega)
 ·rw [<- hf.2.2.2.1];exact hc 3 (by omega)
 ·rw [<- hf.2.2.2.2];exact hc 4 (by omega)
theorem K8 {Tb:World->Prop} (hV:bJ Tb) (hL:aS Tb) (w0 w2:World) (c:Nat) (NA:Option Addr) (nc:Nat) (bv ev:Value) (ops:List ByteArray) (L:Nat->uS) (gv:Value) (xs:List Value) (rb:Nat->Nat) (ys:Nat->List Value) (st:List (T×List T)) (ks:List ByteArray) (h:jR w0 c NA nc bv ev ops L gv xs rb ys st w2) (hb:Below w0.heap.size w0 w2) (hk:bO w0 (.slice NA (ops.length+1) nc) ks) (ho:ops.length<=100000) (hn:st.length<=1000000) (hT:Tb w0) :
  Calls Tryz.prog 225 #[.pointer (some ⟨c,0,none⟩),gv,.func (Fn.func 227) #[.pointer (some ⟨c,0,none⟩)] #[]] w2 fun e w'=>Below w0.heap.size w2 w'/\((∃ (k:Nat) (x:Int),dz KZ (st.map (gU ks)) 0 []=.inl (k,x)/\x≠0/\e=.returned (.tuple #[.slice none 0 0,.int .i64 k,.int .i64 x]))\/∃ r v,dz KZ (st.map (gU ks)) 0 []=.inr r/\e=.returned (.tuple #[v,.int .i64 0,.int .i64 0])/\cu w' v r):=by
 obtain ⟨GA,gc,rfl,_⟩:=h.elems hb hk ho;have hcl:=h.low c (by rw [h.lc];intro e;cases e);have hlen:(st.map (gU ks)).length=st.length:=List.length_map _
 have hat:∀ i,(hi:i<(st.map (gU ks)).length)->qg (fun b=>b≠c) w2 15 (fv xs i) (st.map (gU ks))[i]:=fun i hi=>by
  rw [List.getElem_map];exact h.aiV hb hk ho (by rw [hlen] at hi;exact hi)
 have hmain:=SL KZ (fun k s w'=>s=(st.map (gU ks)).take k/\∃ v zs,Xg w2 c xs k v zs w') 227 (fun _ _=>rfl) (.pointer (some ⟨c,0,none⟩)) c GA gc (st.map (gU ks)) [] w0 w2 (by rw [hlen];exact hn) ⟨rfl,_,_,Xg.start xs h.c0 h.f0 hcl.2⟩
  (fun k s w' hI=>by obtain ⟨_,v,zs,hE⟩:=hI;exact ⟨v,hE.made.cell⟩)
  (fun k s w' hI=>by obtain ⟨_,v,zs,hE⟩:=hI;exact Nat.le_trans hb.size hE.size)
  (fun k s d wr hkl hd hI=>by
   obtain ⟨hs,v,zs,hE⟩:=hI;have ha:=hat k hkl;rw [hd] at ha;obtain ⟨g1,A,C,B,D,_,hf,_,_,_⟩:=ha.at.open;have hks:k<st.length:=by rw [hlen] at hkl;exact hkl
   have hg:=h.grow;rcases h.grow.2 with ⟨e1,h0⟩ | ⟨g,cap,cur,e1,hb0,hgb,rest⟩
   ·omega
   ·simp only [Value.slice.injEq,true_and] at e1;obtain ⟨rfl,rfl⟩:=e1;have hgl:=h.gl g rfl;have hgw:=h.low g (by rw [hgl];intro e;cases e);obtain ⟨p0,p1,p2,p3,p4⟩:=Ou hg hks hf (hE.block g hgw.2 (fun e=>by rw [e,h.lc] at hgl;cases hgl));refine ⟨g,0,A,B,C,D,rfl,p0,p1,p2,p3,p4,fun wx hbx=>?_⟩;rw [hf] at ha
    have hTx:Tb wx:=hL w0 hT w0 wx hT (by
     have h':=hE.keep hbx;exact ⟨h'.os.trans hb.os,h'.tape.trans hb.tape,h'.output.trans hb.output,Nat.le_trans hb.size h'.size,fun b hb'=>(h'.block b (Nat.lt_of_lt_of_le hb' hb.size) (by omega)).trans (hb.block b hb')⟩)
    refine (ZT hV hL w2 w0 wr wx c k xs v zs s d A C B D hE hbx (by omega) hcl.1 hcl.2 hf ha hTx).mono ?_;rintro e w' ⟨k1,k2 | ⟨s',k2,k3,k4,k5⟩⟩
    ·exact ⟨k1,.inl k2⟩
    ·refine ⟨k1,.inr ⟨s',k2,k3,?_,k5⟩⟩;rw [k4,hs,List.take_add_one,List.getElem?_eq_getElem hkl,hd];rfl)
 rw [hlen] at hmain;refine hmain.mono ?_;rintro e w' ⟨k1,k2 | ⟨s',v,k2,⟨k3,v',zs,hE⟩,k5,k6⟩⟩
 ·exact ⟨k1,.inl k2⟩
 ·obtain ⟨q1,q2⟩:=Qi _ _ _ _ k2;rw [List.nil_append] at q1;obtain rfl:v'=v:=Option.some.inj (hE.made.cell.symm.trans k5);refine ⟨k1,.inr ⟨s',v',k2,k6,?_⟩⟩;rw [q1];rw [<- hlen] at hE;exact hE.docs (by rw [hlen];exact hn) hat q2
def stB:ByteArray:=⟨#[98]⟩
def st0:ByteArray:=⟨#[48]⟩
def st1:ByteArray:=⟨#[49]⟩
def stI:ByteArray:=⟨#[95,105,100]⟩
def stA:ByteArray:=⟨#[97]⟩
def stC:ByteArray:=⟨#[99]⟩
theorem Ql (r:List ByteArray) (id:Int) (i:Nat) (o:Option Nat):lg (stI::r) (dY id i o)=lg r (nT id):=by cases o<;>kernel_rfl
def Dp (k:Nat):List ByteArray:=[[stA],[stC],[stA,stB],[stA,st1],[stI],[stC,st0]].getD k []
theorem SN:(List.range 6).map (fun k=>bV (rC k))=(List.range 6).map Dp:=by kernel_rfl
theorem Cg {k:Nat} (h:k<6):bV (rC k)=Dp k:=by
 have:=congrArg (fun l=>l[k]?) SN;simpa [h] using this
theorem ZW:((List.range 6).all fun k=>iY (rC k))=true:=by kernel_rfl
theorem Xk {k:Nat} (h:k<6):iY (rC k)=true:=List.all_eq_true.1 ZW k (List.mem_range.2 h)
theorem SQ (id:Int) (i:Nat) (o:Option Nat):d9 [stI] (dY id i o)=nT id:=by
 unfold d9;rw [Ql];rfl
def Fv (d:T):Int⊕T:=.inr (d9 [stI] d)
theorem adq (a b:Int):bS 16 (nT a) (nT b)=kR a b:=by
 have ka:ah (nT a)=3:=rfl;have kb:ah (nT b)=3:=rfl;rw [bS,ka,kb,if_neg (by simp),if_pos (.inr rfl)];rfl
end Go.Proofs.YtknakfpciccoaabGreatDoor
