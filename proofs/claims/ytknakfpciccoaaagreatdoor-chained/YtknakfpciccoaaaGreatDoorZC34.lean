import Derived.Test.YtknakfpciccoaaaGreatDoorZC33
import Derived.Test.YtknakfpciccoaaaGreatDoorZC26
import Derived.Test.YtknakfpciccoaaaGreatDoorZC32
import Derived.Test.YtknakfpciccoaaaGreatDoorZC21
/- The walk of a group's take. -/
set_option maxHeartbeats 8000000
set_option maxRecDepth 100000
namespace Go.Proofs.YtknakfpciccoaaaGreatDoor
open Go.RowKit
def Iy (w0:World) (c:Nat) (NA:Option Addr) (nc:Nat) (bv ev:Value) (ops:List ByteArray) (r:Int⊕List (T×List T)) (w:World) (e:Ending) (w':World):Prop :=
 Below w0.heap.size w w'/\((∃ x,r=.inl x/\x≠0/\e=.returned (.int .i64 x))\/∃ st',r=.inr st'/\e=.returned (.int .i64 0)/\∃ L gv xs rb ys,jT w0 c NA nc bv ev ops L gv xs rb ys st' w')
theorem Tw {gb:T->Int⊕T} {es:List (ByteArray×(T->Int⊕T))} {st:List (T×List T)} {doc:T} {x:Int} (h:gb doc=.inl x):p9 gb es st doc=.inl x:=by
 unfold p9;rw [h]
theorem Tx {gb:T->Int⊕T} {es:List (ByteArray×(T->Int⊕T))} {st:List (T×List T)} {doc t:T} {x:Int} (h:gb doc=.inr t) (h2:iI doc es 0 ((eX es.length st t)[dS st t]'(lQ _ _ _)).2=.inl x):p9 gb es st doc=.inl x:=by
 unfold p9;rw [h];show (match iI doc es 0 ((eX es.length st t)[dS st t]'(lQ _ _ _)).2 with | .inl x=>Sum.inl x | .inr a=>Sum.inr (gX (eX es.length st t) (dS st t) a))=_;rw [h2]
theorem ZU {gb:T->Int⊕T} {es:List (ByteArray×(T->Int⊕T))} {st:List (T×List T)} {doc t:T} {a:List T} (h:gb doc=.inr t) (h2:iI doc es 0 ((eX es.length st t)[dS st t]'(lQ _ _ _)).2=.inr a):p9 gb es st doc=.inr (gX (eX es.length st t) (dS st t) a):=by
 unfold p9;rw [h];show (match iI doc es 0 ((eX es.length st t)[dS st t]'(lQ _ _ _)).2 with | .inl x=>Sum.inl x | .inr a=>Sum.inr (gX (eX es.length st t) (dS st t) a))=_;rw [h2]
theorem Tz {Tb:World->Prop} (hL:aV Tb) (w0:World) (c:Nat) (NA:Option Addr) (nc:Nat) (bv ev:Value) (es:List (ByteArray×(T->Int⊕T))) (ops:List ByteArray) (hops:ops=es.map Prod.fst) (L:Nat->vB) (gv:Value) (xs:List Value) (rb:Nat->Nat) (ys:Nat->List Value) (st:List (T×List T)) (doc:T) (x:Value) (w:World) (ks:List ByteArray) (gb:T->Int⊕T) (hI:jT w0 c NA nc bv ev ops L gv xs rb ys st w) (hb0:Below w0.heap.size w0 w) (hk:bI w0 (.slice NA (ops.length+1) nc) ks) (hby:dO Tb w0 bv gb) (hes:qM Tb w0 ev es) (hn:st.length<=999999) (hl:∀ i,(h:i<st.length)->∀ j,(∃ hj:j<ops.length,ops[j]=fD)->nL (st[i].2.getD j aM)<=999999) (hd:At w0 13 x doc) (hok:bM doc) (hT:Tb w0) :
  Calls Tryz.prog 358 #[.pointer (some ⟨c,0,none⟩),x] w (Iy w0 c NA nc bv ev ops (p9 gb es st doc) w):=by
 obtain ⟨g1,La,Ka,Lc,Kc,hg1,hx,hj1,hj2,hj3⟩:=hd.open;clear hj1 hj2 hj3;obtain ⟨ty,p,fid,rfl,hm,hcall,oQ⟩:=hby;have HD:=ak (And.intro hd hok);have HI:=ak hI;have HB0:=ak hb0;have Hk:=ak hk;have Hes:=ak hes;have Hn:=ak hn;have Hl:=ak hl;have OX:=ak hops;have HT:Hid (∀ w':World,Below w0.heap.size w0 w'->Tb w'):=fun w' hb=>hL w0 hT w0 w' hT hb;have uM:=ak (aY w (vC doc La Lc Ka Kc));have HX:=ak (aR w (.int .i64 (aj doc)) (.int .i64 (av doc)) (.string (ay doc)) (.slice La (nL doc) Lc) (.slice Ka (nK doc) Kc));have HI1:=ak (hI.keep uM.out);have hcl:=ak (hI.low c (by rw [hI.lc];intro e;cases e));have HC:Hid (∀ wx,Below w.heap.size w wx->_):=fun wx hq=>oQ w0 wx x doc (Below.refl _ _) (hb0.trans (hq.mono hb0.size)) hd hok (HT.out wx (hb0.trans (hq.mono hb0.size)));rw [hx] at HC;have hmw:=hm;subst hx;clear hI hb0 hk hes hn hl hops hd hok hT hL oQ hm hg1;go_in;go_upto_region 1 with fail
 go_cut [5,6] (fun s5 s6 wx=>∃ (bx:Nat) (vk vn:Int) (vs:ByteArray) (VA:Option Addr) (vl VB:Nat) (VC:Option Addr) (vm VD:Nat) (er:Int),s5=.pointer (some ⟨bx,0,none⟩)/\s6=.int .i64 er/\Hid (Below w.heap.size w wx/\aJ bx (.int .i64 vk) (.int .i64 vn) (.string vs) (.slice VA vl VB) (.slice VC vm VD) wx/\aJ w.heap.size (.int .i64 (aj doc)) (.int .i64 (av doc)) (.string (ay doc)) (.slice La (nL doc) Lc) (.slice Ka (nK doc) Kc) wx/\w.heap.size<wx.heap.size)/\Hid ((gb doc=.inl er/\er≠0)\/∃ t A B C D,gb doc=.inr t/\er=0/\Value.agg #[.int .i64 vk,.int .i64 vn,.string vs,.slice VA vl VB,.slice VC vm VD]=.agg #[.int .i64 (aj t),.int .i64 (av t),.string (ay t),.slice A (nL t) B,.slice C (nK t) D]/\At w0 13 (.agg #[.int .i64 (aj t),.int .i64 (av t),.string (ay t),.slice A (nL t) B,.slice C (nK t) D]) t/\bM t))
 case first =>
  clear HD Hk Hes Hn Hl OX HB0 HI hcl;have c2a:=HI1.out.c2;have zx:=ak (uM.out.alloc uM.out.size (.cells #[.int .i64 0,.int .i64 0,.string ⟨#[]⟩,.slice none 0 0,.slice none 0 0] 25));have aiD:=ak (HI1.out.keep ((Below.refl _ _).alloc (Nat.le_refl _) (.cells #[.int .i64 0,.int .i64 0,.string ⟨#[]⟩,.slice none 0 0,.slice none 0 0] 25)));have c2b:=aiD.out.c2;have HXz:=ak (HX.out.stay ((Below.refl _ _).alloc (Nat.le_refl _) (.cells #[.int .i64 0,.int .i64 0,.string ⟨#[]⟩,.slice none 0 0,.slice none 0 0] 25)));have ZR:=ak uM.out.drew;have rF:=ak zx.out.drew;have r0:=HX.out.q0;have r1:=HX.out.q1;have r2:=HX.out.q2;have r3:=HX.out.q3;have r4:=HX.out.q4;have s0:=HXz.out.q0;have s1:=HXz.out.q1;have s2:=HXz.out.q2;have s3:=HXz.out.q3;have s4:=HXz.out.q4
  have HZ:Hid (aJ (w.heap.size+1) (.int .i64 0) (.int .i64 0) (.string ⟨#[]⟩) (.slice none 0 0) (.slice none 0 0) ((w.alloc (vC doc La Lc Ka Kc)).alloc (.cells #[.int .i64 0,.int .i64 0,.string ⟨#[]⟩,.slice none 0 0,.slice none 0 0] 25))):=by
   constructor<;>simp [go_sem]
  go_region_law (first | (go_simp;with_reducible refine Calls.mono (HC.out _ ZR.out) ?_;rintro e w2 he;obtain ⟨b2,vk,vn,vs,VA,vl,VB,VC,vm,VD,er,rfl,hc⟩:=lN.flat he;have HB2:=ak (ZR.out.trans (b2.mono ZR.out.size));have kr:=ak (HX.out.stay ((au _).trans (b2.mono (au _).size)));have HCC:=ak hc;have HFin:=ak (And.intro (HB2.out.alloc HB2.out.size (.cells #[.int .i64 vk,.int .i64 vn,.string vs,.slice VA vl VB,.slice VC vm VD] 25)) (And.intro (aR w2 (.int .i64 vk) (.int .i64 vn) (.string vs) (.slice VA vl VB) (.slice VC vm VD)) (And.intro (kr.out.stay ((Below.refl _ _).alloc (Nat.le_refl _) (.cells #[.int .i64 vk,.int .i64 vn,.string vs,.slice VA vl VB,.slice VC vm VD] 25))) (Nat.lt_of_lt_of_le kr.out.lt ((Below.refl w2.heap.size w2).alloc (Nat.le_refl _) (.cells #[.int .i64 vk,.int .i64 vn,.string vs,.slice VA vl VB,.slice VC vm VD] 25)).size))));clear b2 hc he;dsimp only) | (go_simp;with_reducible refine Calls.mono (HC.out _ rF.out) ?_;rintro e w2 he;obtain ⟨b2,vk,vn,vs,VA,vl,VB,VC,vm,VD,er,rfl,hc⟩:=lN.flat he;have HB2:=ak (rF.out.trans (b2.mono rF.out.size));have kr:=ak (HXz.out.stay ((au _).trans (b2.mono (au _).size)));have HZ2:=ak (HZ.out.stay ((au _).trans (b2.mono (au _).size)));have HCC:=ak hc;have n0:=HZ2.out.q0;have n1:=HZ2.out.q1;have n2:=HZ2.out.q2;have n3:=HZ2.out.q3;have n4:=HZ2.out.q4;have m0:=HZ2.out.f0;have m1:=HZ2.out.f1;have m2:=HZ2.out.f2;have m3:=HZ2.out.f3;have m4:=HZ2.out.f4;have HFin:=ak (And.intro (bU HB2.out (b:=w.heap.size+1) (by omega) (by have:=HZ2.out.lt;omega) (.int .i64 vk) (.int .i64 vn) (.string vs) (.slice VA vl VB) (.slice VC vm VD)) (And.intro (HZ2.out.bV (.int .i64 vk) (.int .i64 vn) (.string vs) (.slice VA vl VB) (.slice VC vm VD)) (And.intro (kr.out.move (w':=bV w2 (w.heap.size+1) (.int .i64 vk) (.int .i64 vn) (.string vs) (.slice VA vl VB) (.slice VC vm VD)) (by rw [jA];exact Nat.le_refl _) (ig w2 (by omega) (.int .i64 vk) (.int .i64 vn) (.string vs) (.slice VA vl VB) (.slice VC vm VD))) (show w.heap.size<(bV w2 (w.heap.size+1) (.int .i64 vk) (.int .i64 vn) (.string vs) (.slice VA vl VB) (.slice VC vm VD)).heap.size by rw [jA];exact kr.out.lt))));clear b2 hc he;dsimp only))
  all_goals
   go_wp2_with fail;go_meet;unfold bV at HFin;exact ⟨_,_,_,_,_,_,_,_,_,_,_,rfl,rfl,HFin,HCC⟩
 case rest =>
  obtain ⟨bx,vk,vn,vs,VA,vl,VB,VC,vm,VD,er,rfl,rfl,HF,HG⟩:=hcut;have ZQ:=ak HB0.out.size;rcases HG.out with ⟨h1,h2⟩ | ⟨t,A,B,C,D,h1,rfl,h3,h4,h5⟩
  ·have ez:(er==0)=false:=by simpa using h2
   have vW:Hid (Iy w0 c NA nc (.iface ty p) ev ops (p9 gb es st doc) w (.returned (.int .i64 er)) wc):=by
    exact ⟨HF.out.1.mono ZQ.out,.inl ⟨er,Tw h1,h2,rfl⟩⟩
   clear h1 h2 HG HF HC HI HI1 HX uM HD Hes Hl OX Hk HB0 Hn hcl hmw hcall;go_wp2_with fail;go_ret;exact vW.out
  ·have Ht:=ak (And.intro h1 (And.intro h4 h5));simp only [Value.agg.injEq,Array.mk.injEq,List.cons.injEq,and_true,Value.int.injEq,true_and,Value.string.injEq,Value.slice.injEq] at h3;obtain ⟨rfl,rfl,rfl,⟨rfl,rfl,rfl⟩,rfl,rfl,rfl⟩:=h3;have Hlen:Hid (ops.length=es.length):=by show _=_;rw [OX.out,List.length_map]
   have HI3:=ak (HI.out.keep HF.out.1);have afM:=ak (HB0.out.trans (HF.out.1.mono HB0.out.size));obtain ⟨EA,ec,hev,hen,hee⟩:=Hes.out;clear Hes;subst hev;have Hee:=ak hee;have Hen:=ak hen;have HGa:=ak (Iw w0 c NA nc (.iface ty p) (.slice EA es.length ec) ops L gv xs rb ys st t VA VC VB VD wc ks HI3.out afM.out Hk.out (by rw [Hlen.out];exact hen) (by have:=Hn.out;omega) h4 h5);have HY:=ak HF.out.2.1;have HDo:=ak (HF.out.2.2);have HBF:=ak HF.out.1
   have HLd:Hid (L w.heap.size=.no):=by
    show _=_;cases hc:L w.heap.size with
    | no=>rfl
    | _=>exact absurd (HI.out.low w.heap.size (by rw [hc];intro e;cases e)).2 (by omega)
   clear h1 h4 h5 hee hen HG HF HC HI1 HX uM hmw hcall Hk HI3;have y0:=HY.out.q0;have y1:=HY.out.q1;have y2:=HY.out.q2;have y3:=HY.out.q3;have y4:=HY.out.q4;go_wp2_with fail;refine HGa.out.mono ?_;rintro e w4 ⟨b4,L4,gv4,xs4,rb4,ys4,hI4,hL4,o,ho,rfl⟩;rw [Hlen.out] at hI4;have hdl:=hL4 w.heap.size HDo.out.2 HLd.out;have HD4:=ak (HDo.out.1.move b4.size hdl.2);have bT:=ak ((HBF.out.mono ZQ.out).trans b4);have HIS:=ak (lQ es.length st t);have Hst:Hid (∃ a L' ys',iI doc (es.take 0) 0 ((eX es.length st t)[dS st t]'(lQ _ _ _)).2=.inr a/\jT w0 c NA nc (.iface ty p) (.slice EA es.length ec) ops L' gv4 xs4 rb4 ys' (gX (eX es.length st t) (dS st t) a) w4/\L' w.heap.size=.no):=⟨_,L4,ys4,rfl,by rw [OW];exact hI4,hdl.1⟩;have c34:=hI4.c3;have Ho:=ak ho;have hel:¬ (es.length:Int)<0:=by omega
   clear b4 hI4 hL4 hdl ho HGa HDo HBF afM HLd HI HY y0 y1 y2 y3 y4;go_wp2_with fail;go_loopg [30] es.length (fun g i wr=>∃ k:Nat,g=es.length - k/\k<=es.length/\i=.int .i64 k/\Hid (∃ a L' ys',iI doc (es.take k) 0 ((eX es.length st t)[dS st t]'(lQ _ _ _)).2=.inr a/\jT w0 c NA nc (.iface ty p) (.slice EA es.length ec) ops L' gv4 xs4 rb4 ys' (gX (eX es.length st t) (dS st t) a) wr/\L' w.heap.size=.no)/\Hid (Below w0.heap.size w wr)/\Hid (aJ w.heap.size (.int .i64 (aj doc)) (.int .i64 (av doc)) (.string (ay doc)) (.slice La (nL doc) Lc) (.slice Ka (nK doc) Kc) wr))
   case atStart=>exact ⟨0,rfl,Nat.zero_le _,rfl,Hst,bT,HD4⟩
   case round =>
    obtain ⟨k,rfl,hk,rfl,HR,vZ,YW⟩:=hrel;have Cw:=ak (HB0.out.trans vZ.out);by_cases hlt:k<es.length
    ·obtain ⟨a,L',ys',hrow,hG,ZT⟩:=HR.out;obtain ⟨b,o',u,rfl,hbl,p0,p1,hex,afO⟩:=Hee.out k hlt
     obtain ⟨ty2,p2,hu⟩:∃ ty2 p2,u=.iface ty2 p2:=by
      obtain ⟨a1,b1,_,h,_⟩:=hex;exact ⟨a1,b1,h⟩
     subst hu;have hko:k<ops.length:=by rw [Hlen.out];exact hlt
     have ade:ops[k]=es[k].1:=by
      have h:=OX.out;subst h;exact List.getElem_map ..
     have hin:dS st t<(gX (eX es.length st t) (dS st t) a).length:=by rw [p8];exact HIS.out
     obtain ⟨s,sA,sB,sC,sD,hs0,hsf⟩:=hG.shape (i:=dS st t) (j:=k) hin hko;have hs1:s=a.getD k aM:=by rw [hs0,FK _ _ _ HIS.out]
     have hs2:ops[k]=fD->nL s<=999999:=fun hg=>by
      rw [hs1,FL doc _ 0 _ _ hrow k (by rw [List.length_take];omega)];exact Xw t Hl.out k ⟨hko,hg⟩
     obtain ⟨op,hop⟩:∃ op,es[k].1=op:=⟨_,rfl⟩;obtain ⟨gk,hgk⟩:∃ gk,es[k].2=gk:=⟨_,rfl⟩;rw [hgk] at hex;rw [hop] at p0;have p0r:=(Cw.out.cell (p:=⟨b,o'+k*2,none⟩) hbl).trans p0;have p1r:=(Cw.out.cell (p:=⟨b,o'+k*2+1,none⟩) hbl).trans p1;have fT:=ak (aY wr (.cells #[.string op,.iface ty2 p2] 316));have qw:Hid (Below wr.heap.size wr (wr.alloc (.cells #[.string op,.iface ty2 p2] 316)).drew):=fT.out.drew;have HG2:=ak (hG.keep qw.out);have HDd:=ak (YW.out.stay qw.out);have HDa:=ak (YW.out.stay fT.out);have wO:=ak (vZ.out.trans (qw.out.mono (Nat.le_trans ZQ.out vZ.out.size)));have Xx:=ak (HB0.out.trans wO.out);have HLd:=ak ZT;obtain ⟨⟨e0,e1,e2,e3,e4⟩,hfz⟩:=(hG.keep fT.out).cells5 hin hko hsf rfl;have HCg:=ak (OV w0 c NA nc (.iface ty p) (.slice (some ⟨b,o',none⟩) es.length ec) ops L' gv4 xs4 rb4 ys' (gX (eX es.length st t) (dS st t) a) _ HG2.out Xx.out (dS st t) k hin hko (by rw [ade];exact afO) (.iface ty2 p2) gk hex doc _ HD.out.1 HD.out.2 (fun w' hb=>HT.out w' (Xx.out.trans (hb.mono Xx.out.size))) (fun hg=>by rw [<- hs0];have:=hs2 hg;omega));rw [hsf,ade,hop,<- hs0] at HCg;have adg:=ak (fun e w6 h=>ada (e:=e) (w6:=w6) (r:=mX gk op s doc) HG2.out hin hko wO.out HDd.out ZT h hsf);have Xy:=ak (And.intro hrow (And.intro hs1 (And.intro hop hgk)));have ho5:o=5:=Ho.out (fun e=>by rw [e] at hko;exact absurd hko (Nat.not_lt_zero _));subst ho5
     have Yt:Hid (es.take (k+1)=es.take k++[es[k]]):=by show _=_;rw [List.take_add_one,List.getElem?_eq_getElem hlt];rfl
     have HE2:Hid (es=es.take k++es[k]::es.drop (k+1)):=by show _=_;rw [<- List.drop_eq_getElem_cons hlt,List.take_append_drop]
     have lF:Hid ((es.take k).length=k):=by show _=_;rw [List.length_take];omega
     have x1:(k:Int)<(es.length:Int):=by omega
     have x2:¬ (k:Int)<0:=by omega
     have x3:(k:Int)<(ops.length:Int):=by omega
     clear hrow hG hs0 hs1 hs2 hop hgk ade afO hex p0 p1 HR hsf ZT YW hbl;go_upto_region 8 with fail;go_cut [6] from 31 to 51 (fun s6 wx=>∃ er:Int,s6=.int .i64 er/\Hid (Below w0.heap.size w wx/\aJ w.heap.size (.int .i64 (aj doc)) (.int .i64 (av doc)) (.string (ay doc)) (.slice La (nL doc) Lc) (.slice Ka (nK doc) Kc) wx)/\Hid ((mX gk op s doc=.inl er/\er≠0)\/∃ t',mX gk op s doc=.inr t'/\er=0/\∃ L2 ys2,jT w0 c NA nc (.iface ty p) (.slice (some ⟨b,o',none⟩) es.length ec) ops L2 gv4 xs4 rb4 ys2 (q9 (gX (eX es.length st t) (dS st t) a) (dS st t) k t') wx/\L2 w.heap.size=.no))
     case first =>
      clear Yt HE2 lF Xy bT HD4 Hst Hee Hen HD HT Hn Hl OX Hlen hcl Ht vZ Cw fT HIS c34;have d0:=HDa.out.q0;have d1:=HDa.out.q1;have d2:=HDa.out.q2;have d3:=HDa.out.q3;have d4:=HDa.out.q4;go_region_law (go_simp;go_wp2_with (go_at_call 360;refine HCg.out.mono ?_;rintro e w6 he;obtain ⟨vk,vn,vs,VA2,vl,VB2,VC2,vm,VD2,er,rfl,⟨g0,g1,g2,g3,g4⟩,hz,DJ,Gp⟩:=adg.out _ _ he;have z0:=hz (5+k*5);have z1:=hz (5+k*5+1);have z2:=hz (5+k*5+2);have z3:=hz (5+k*5+3);have z4:=hz (5+k*5+4);clear he hz))
      all_goals
       go_wp2_with fail;go_meet;unfold bG at DJ Gp;exact ⟨_,rfl,DJ,Gp⟩
     case rest =>
      obtain ⟨er,rfl,DJ,Gp⟩:=hcut;rcases Gp.out with ⟨h1,h2⟩ | ⟨t',h1,rfl,L2,ys2,h3,h4⟩
      ·have ez:(er==0)=false:=by simpa using h2
       have vW:Hid (Iy w0 c NA nc (.iface ty p) (.slice (some ⟨b,o',none⟩) es.length ec) ops (p9 gb es st doc) w (.returned (.int .i64 er)) wc):=by
        have h5:=LC doc (es.take k) es[k] (es.drop (k+1)) 0 _ a er Xy.out.1 (by rw [lF.out,Nat.zero_add,Xy.out.2.2.2,Xy.out.2.2.1,<- Xy.out.2.1];exact h1);rw [<- HE2.out] at h5;exact ⟨DJ.out.1,.inl ⟨er,Tx Ht.out.1 h5,h2,rfl⟩⟩
       clear h1 h2 DJ Gp HCg adg HG2 HDd HDa wO Xx HLd Xy Yt HE2 lF Hst bT HD4 Hee Hen HD HT Hn Hl OX Hlen hcl Ht vZ Cw fT qw HIS c34 e0 e1 e2 e3 e4 hfz p0r p1r;go_wp2_with fail;go_ret;exact vW.out
      ·have HR2:Hid (∃ a L' ys',iI doc (es.take (k+1)) 0 ((eX es.length st t)[dS st t]'(lQ _ _ _)).2=.inr a/\jT w0 c NA nc (.iface ty p) (.slice (some ⟨b,o',none⟩) es.length ec) ops L' gv4 xs4 rb4 ys' (gX (eX es.length st t) (dS st t) a) wc/\L' w.heap.size=.no):=by
        have h5:=FJ doc (es.take k) es[k] 0 _ a t' Xy.out.1 (by rw [lF.out,Nat.zero_add,Xy.out.2.2.2,Xy.out.2.2.1,<- Xy.out.2.1];exact h1);rw [lF.out,Nat.zero_add,<- Yt.out] at h5;exact ⟨a.set k t',L2,ys2,h5,by rw [<- Tv];exact h3,h4⟩
       have ae2:es.length<=100000:=Hen.out;have rF:=ak DJ.out.1;have zT:=ak DJ.out.2;clear h1 h3 h4 DJ Gp HCg adg HG2 HDd HDa wO Xx HLd Xy Yt HE2 lF vZ Cw fT qw e0 e1 e2 e3 e4 hfz p0r p1r;go_wp2_with fail;go_roundg (es.length - (k+1))
       case rel=>exact ⟨k+1,rfl,by omega,by go_num,HR2,rF,zT⟩
       case measure=>omega
    ·obtain rfl:k=es.length:=by omega
     have vW:Hid (Iy w0 c NA nc (.iface ty p) (.slice EA es.length ec) ops (p9 gb es st doc) w (.returned (.int .i64 0)) wr):=by
      obtain ⟨a,L',ys',hrow,hG,ZT⟩:=HR.out;rw [List.take_length] at hrow;exact ⟨vZ.out,.inr ⟨_,ZU Ht.out.1 hrow,rfl,L',gv4,xs4,rb4,ys',hG⟩⟩
     have x1:¬ (es.length:Int)<(es.length:Int):=by omega
     clear HR vZ YW Cw Hst bT HD4 Hee Hen HD HT Hn Hl OX Hlen hcl Ht HIS c34;go_wp2_with fail;go_ret;exact vW.out
theorem TF {σ:Type} (st:σ->T->Int⊕σ) (I:Nat->σ->World->Prop) (gid:FuncId) (ah1:∀ (a:Array Value) (w:World),(callFunc gid a).run Tryz.prog w=.ok (.enter gid a) w) (pv:Value) (c:Nat) (La:Option Addr) (Lc:Nat) (l:List T) (s:σ) (w0 w:World) (hn:l.length<=1000000) (hI:I 0 s w)
  (hIc:∀ k s w,I k s w->∃ v,w.cell? ⟨c,0,none⟩=some v) (hIl:∀ k s w,I k s w->w0.heap.size<=w.heap.size)
  (hst:∀ k s d wr,(h:k<l.length)->l[k]=d->I k s wr->∃ bb oo A B C D,La=some ⟨bb,oo,none⟩/\wr.cell? ⟨bb,oo+k*5,none⟩=some (.int .i64 (aj d))/\wr.cell? ⟨bb,oo+k*5+1,none⟩=some (.int .i64 (av d))/\wr.cell? ⟨bb,oo+k*5+2,none⟩=some (.string (ay d))/\wr.cell? ⟨bb,oo+k*5+3,none⟩=some (.slice A (nL d) B)/\wr.cell? ⟨bb,oo+k*5+4,none⟩=some (.slice C (nK d) D)/\∀ wx,Below wr.heap.size wr wx->Calls Tryz.prog gid #[pv,.agg #[.int .i64 (aj d),.int .i64 (av d),.string (ay d),.slice A (nL d) B,.slice C (nK d) D]] wx (Ie st s (I (k+1)) d w0 wx)) :
  Calls Tryz.prog 350 #[.pointer (some ⟨c,0,none⟩),.slice La l.length Lc,.func (Fn.func gid) #[pv] #[]] w (WL st s (I l.length) c l w0 w):=by
 have HI:=ak hI;have HIc:=ak hIc;have HIl:=ak hIl;have vM:=ak hst;clear hI hIc hst hIl;obtain ⟨n,hln⟩:∃ n,l.length=n:=⟨_,rfl⟩;have QB:=ak hln;rw [hln] at hn ⊢;clear hln;go_in;go_wp2_with fail;go_loopg [14] n (fun g i wr=>∃ (k:Nat) (s':σ),g=n - k/\k<=n/\i=.int .i64 k/\Hid (Below w0.heap.size w wr)/\Hid (I k s' wr)/\Hid (dM st (l.take k) 0 s=.inr s'))
 case atStart=>exact ⟨0,s,rfl,Nat.zero_le _,rfl,Below.refl _ _,HI,rfl⟩
 case round =>
  obtain ⟨k,s',rfl,hk,rfl,HB,HS,HE⟩:=hrel;by_cases hlt:k<n
  ·have hkl:k<l.length:=by rw [QB.out];exact hlt
   have HG:Hid (l.take (k+1)=l.take k++[l[k]]):=by show _=_;rw [List.take_add_one,List.getElem?_eq_getElem hkl];rfl
   have HG2:Hid (l=l.take k++l[k]::l.drop (k+1)):=by show _=_;rw [<- List.drop_eq_getElem_cons hkl,List.take_append_drop]
   have HGl:Hid ((l.take k).length=k):=by show _=_;rw [List.length_take];omega
   have HQ:=ak (vM.out k s' l[k] wr hkl rfl HS.out);generalize l[k]=d at HG HG2 HQ;obtain ⟨bb,oo,A,B,C,D,rfl,p0,p1,p2,p3,p4,hq⟩:=HQ.out;have vY:=ak (aY wr (vC d A B C D));have HC:=ak (hq _ vY.out);have HLw:=ak (HIl.out _ _ _ HS.out);clear hq HQ;go_wp2_with fail;refine HC.out.mono ?_;rintro e w2 ⟨b2,⟨x,hx,hne,rfl⟩ | ⟨s2,hx,rfl,hI2⟩⟩
   ·have ez:(x==0)=false:=by simpa using hne
    have HF:Hid (dM st l 0 s=.inl (k,x)/\x≠0):=⟨by have:=yI st _ _ (l.drop (k+1)) 0 s s' x HE.out hx;rw [<- HG2.out,HGl.out,Nat.zero_add] at this;exact this,hne⟩;have fI:=ak ((HB.out.trans (vY.out.mono HLw.out)).trans b2);clear b2 hx hne HC;go_wp2_with fail;refine bodyPost_ret (v:=.tuple #[.slice none 0 0,.int .i64 (k:Nat),.int .i64 x]) (by simp [results,Tryz.results350,go_sem, *]) rfl ?_;exact ⟨fI.out,.inl ⟨k,x,HF.out.1,HF.out.2,rfl⟩⟩
   ·have HE2:Hid (dM st (l.take (k+1)) 0 s=.inr s2):=by show _=_;rw [HG.out];exact vT st _ _ 0 s s' s2 HE.out hx
    have fI:=ak ((HB.out.trans (vY.out.mono HLw.out)).trans b2);have HI2:=ak hI2;clear b2 hx HC hI2;go_wp2_with fail;go_roundg (n - (k+1))
    case rel=>exact ⟨k+1,s2,rfl,by omega,by go_num,fI,HI2,HE2⟩
    case measure=>omega
  ·obtain rfl:k=n:=by omega
   have HF:Hid (dM st l 0 s=.inr s'):=by
    have h1:=HE.out;rw [<- QB.out,List.take_length] at h1;exact h1
   obtain ⟨v,hv⟩:=HIc.out _ s' wr HS.out;go_wp2_with fail;refine bodyPost_ret (v:=.tuple #[v,.int .i64 0,.int .i64 0]) (by simp [results,Tryz.results350,go_sem, *]) rfl ?_;exact ⟨HB.out,.inr ⟨s',v,HF.out,HS.out,hv,rfl⟩⟩
theorem qc.up1 {p:Nat->Prop} {w:World}:∀ {f:Nat} {v:Value} {t:T},qc p w f v t->qc p w (f+1) v t:=by
 intro f
 induction f with
 | zero=>intro v t h;exact h.elim
 | succ f ih =>
  rintro v t ⟨La,Ka,Lc,Kc,rfl,hf,hl,hk⟩;refine ⟨La,Ka,Lc,Kc,rfl,hf,fun i hi=>?_,hk⟩;obtain ⟨b,o,c0,c1,c2,c3,c4,h0,hb,q0,q1,q2,q3,q4,ha⟩:=hl i hi;exact ⟨b,o,c0,c1,c2,c3,c4,h0,hb,q0,q1,q2,q3,q4,ih ha⟩
theorem xH.atP {w0:World} {L:Nat->vB} {w:World} {i j c:Nat} {op:ByteArray} {v:Value} {a:T} (h:xH w0 L w i j op v a) (hb:Below w0.heap.size w0 w) (hc:w0.heap.size<=c) (hL:L c=.box):qc (fun b=>b≠c) w 14 v a:=by
 rcases h with ⟨_,h,_⟩ | ⟨_,A,B,zs,rfl,h3,h4,h5,h6,h7⟩
 ·exact (At.toP (fun b h=>by omega) hb h).up1
 ·have hk:nK a=0:=by
   rcases h3 with h3 | h3
   ·rw [h3];rfl
   ·rw [h3];rfl
  have hz:zs.length=nL a*5:=h4.1
  have hfit:-9223372036854775808<=aj a/\aj a<=9223372036854775807/\av a=0/\ay a=ByteArray.empty:=by
   rcases h3 with h3 | h3
   ·rw [h3];exact ⟨by show -9223372036854775808<=(0:Int);omega,by show (0:Int)<=_;omega,rfl,rfl⟩
   ·rw [h3];exact ⟨by show -9223372036854775808<=(5:Int);omega,by show (5:Int)<=_;omega,rfl,rfl⟩
  refine ⟨A,none,B,0,by rw [hk],⟨hfit.1,hfit.2.1,by rw [hfit.2.2.1];omega,by rw [hfit.2.2.1];omega,by rw [hfit.2.2.2];show (0:Nat)<=_;omega,by omega,by omega⟩,fun k hk'=>?_,fun k hk'=>by omega⟩;rcases h4.2 with ⟨_,h0⟩ | ⟨g,cap,cur,h',hb0,hg,rest⟩
  ·omega
  ·simp only [Value.slice.injEq,true_and] at h';obtain ⟨rfl,rfl⟩:=h';have hcl:∀ r,r<5->w.cell? ⟨g,k*5+r,none⟩=some (cx zs (k*5+r)):=fun r hr=>aX h4 (dR (by omega));refine ⟨g,0,cx zs (k*5),cx zs (k*5+1),cx zs (k*5+2),cx zs (k*5+3),cx zs (k*5+4),rfl,⟨(Array.getElem?_eq_some_iff.1 hg).1,fun e=>?_⟩,(by rw [Nat.zero_add];exact hcl 0 (by omega)),(by rw [Nat.zero_add];exact hcl 1 (by omega)),(by rw [Nat.zero_add];exact hcl 2 (by omega)),(by rw [Nat.zero_add];exact hcl 3 (by omega)),(by rw [Nat.zero_add];exact hcl 4 (by omega)),?_⟩
   ·have:=h6 g rfl;rw [e,hL] at this;cases this
   ·exact At.toP (fun b h=>by omega) hb (h7 k hk').1
theorem jT.aiF {w0:World} {c:Nat} {NA:Option Addr} {nc:Nat} {bv ev:Value} {ops:List ByteArray} {L:Nat->vB} {gv:Value} {xs:List Value} {rb:Nat->Nat} {ys:Nat->List Value} {st:List (T×List T)} {w:World} (h:jT w0 c NA nc bv ev ops L gv xs rb ys st w) (hb:Below w0.heap.size w0 w) {ks:List ByteArray} (hk:bI w0 (.slice NA (ops.length+1) nc) ks) (ho:ops.length<=100000) {i:Nat} (hi:i<st.length):qc (fun b=>b≠c) w 15 (fv xs i) (fZ ks st[i]):=by
 obtain ⟨C,D,e1,hkn,hks⟩:=hk;simp only [Value.slice.injEq] at e1;obtain ⟨rfl,e2,rfl⟩:=e1;have hcl:=h.low c (by rw [h.lc];intro e;cases e);have hlen:=h.len i hi;rw [h.el i hi];have hr:=h.row i hi;have hy:(ys i).length=(ops.length+1)*5:=hr.1;refine ⟨some ⟨rb i,0,none⟩,NA,ops.length+1,nc,?_,?_,fun j hj=>?_,fun j hj=>?_⟩
 ·unfold fZ;rw [bg,eP,gu,aN,eY,List.length_cons,hlen,<- e2];rfl
 ·unfold fZ;exact ⟨by rw [bg];omega,by rw [bg];omega,by rw [eP];omega,by rw [eP];omega,by rw [gu];show (0:Nat)<=_;omega,by rw [aN,List.length_cons,hlen];omega,by rw [eY];exact hkn⟩
 ·unfold fZ at hj;rw [aN,List.length_cons,hlen] at hj;have hc:∀ r,r<5->w.cell? ⟨rb i,j*5+r,none⟩=some (cx (ys i) (j*5+r)):=fun r hr'=>aX hr (dR (by omega));refine ⟨rb i,0,cx (ys i) (j*5),cx (ys i) (j*5+1),cx (ys i) (j*5+2),cx (ys i) (j*5+3),cx (ys i) (j*5+4),rfl,⟨(hr.lt _ rfl).2,fun e=>?_⟩,(by rw [Nat.zero_add];exact hc 0 (by omega)),(by rw [Nat.zero_add];exact hc 1 (by omega)),(by rw [Nat.zero_add];exact hc 2 (by omega)),(by rw [Nat.zero_add];exact hc 3 (by omega)),(by rw [Nat.zero_add];exact hc 4 (by omega)),?_⟩
  ·have:=h.rl i hi;rw [e,h.lc] at this;cases this
  show qc _ w 14 (fv (ys i) j) (elt (fZ ks st[i]) j);cases j with
  | zero=>exact (At.toP (fun b h=>by omega) hb (h.Xr i hi).1).up1
  | succ j =>
   have e3:elt (fZ ks st[i]) (j+1)=st[i].2.getD j aM:=by
    unfold fZ;rw [iQ,List.getD_cons_succ,List.getD_eq_getElem?_getD,List.getD_eq_getElem?_getD,List.getElem?_eq_getElem (by omega)];rfl
   rw [e3];exact (h.acc i hi j (by omega)).atP hb hcl.1 h.lc
 ·unfold fZ at hj;rw [eY] at hj;obtain ⟨b,o,h0,hbl,hsz,hc⟩:=hks j hj;unfold fZ;refine ⟨b,o,h0,⟨Nat.lt_of_lt_of_le hbl hb.size,by omega⟩,?_,?_⟩
  ·rw [rY];exact hsz
  ·rw [rY,hb.cell (p:=⟨b,_,none⟩) hbl];exact hc
def Mv (made:List T) (d:T):Int⊕List T:=if bR d then .inl 15 else .inr (made++[d])
theorem QJ:∀ (l:List T) (k:Nat) (s s':List T),dM Mv l k s=.inr s'->s'=s++l/\∀ i,(h:i<l.length)->bR l[i]=false
 | [],k,s,s',h=>by
  simp only [dM,Sum.inr.injEq] at h;exact ⟨by rw [<- h,List.append_nil],fun i h=>absurd h (Nat.not_lt_zero i)⟩
 | d::r,k,s,s',h=>by
  simp only [dM] at h;cases hb:bR d with
  | true =>
   rw [show Mv s d=.inl 15 by unfold Mv;rw [hb];rfl] at h;cases h
  | false =>
   rw [show Mv s d=.inr (s++[d]) by unfold Mv;rw [hb];rfl] at h;obtain ⟨h1,h2⟩:=QJ r (k+1) (s++[d]) s' h;refine ⟨by rw [h1,List.append_assoc];rfl,fun i hi=>?_⟩;cases i with
   | zero=>exact hb
   | succ i=>exact h2 i (by rw [List.length_cons] at hi;omega)
structure Xz (W2:World) (c:Nat) (QK:List Value) (n:Nat) (v:Value) (xs:List Value) (w:World):Prop where
 made:Mk w c v n xs
 own:∀ b,v.ownBlock=some b->W2.heap.size<=b
 os:w.os=W2.os
 tape:w.tape=W2.tape
 output:w.output=W2.output
 size:W2.heap.size<=w.heap.size
 block:∀ b,b<W2.heap.size->b≠c->w.heap[b]?=W2.heap[b]?
 el:∀ i,i<n->fv xs i=fv QK i
theorem Xz.start {W2:World} {c:Nat} (QK:List Value) (h0:W2.cell? ⟨c,0,none⟩=some (.slice none 0 0)) (hf:W2.frozen? ⟨c,0,none⟩=false) (hc:c<W2.heap.size):Xz W2 c QK 0 (.slice none 0 0) [] W2 :=
 ⟨⟨h0,hf,hc,World.ownsRow_nil _ _ _ _,by simp [Value.ownBlock]⟩,fun b e=>by simp [Value.ownBlock] at e,rfl,rfl,rfl,Nat.le_refl _,fun _ _ _=>rfl,fun i hi=>absurd hi (Nat.not_lt_zero i)⟩
theorem Xz.keep {W2:World} {c:Nat} {QK:List Value} {n:Nat} {v:Value} {xs:List Value} {w w':World} (h:Xz W2 c QK n v xs w) (hb:Below w.heap.size w w'):Xz W2 c QK n v xs w' :=
 ⟨h.made.keep hb,h.own,hb.os.trans h.os,hb.tape.trans h.tape,hb.output.trans h.output,Nat.le_trans h.size hb.size,fun b h1 h2=>(hb.block b (Nat.lt_of_lt_of_le h1 h.size)).trans (h.block b h1 h2),h.el⟩
theorem ZV {Tb:World->Prop} (hV:bF Tb) (hL:aV Tb) (W2 w0 wr wx:World) (c n:Nat) (QK:List Value) (v:Value) (xs:List Value) (made:List T) (t:T) (A C:Option Addr) (B D:Nat) (h:Xz W2 c QK n v xs wr) (hb:Below wr.heap.size wr wx) (hn:n<=1000000) (hc:w0.heap.size<=c) (hcw:c<W2.heap.size) (hf:fv QK n=.agg #[.int .i64 (aj t),.int .i64 (av t),.string (ay t),.slice A (nL t) B,.slice C (nK t) D]) (ha:qc (fun b=>b≠c) W2 15 (.agg #[.int .i64 (aj t),.int .i64 (av t),.string (ay t),.slice A (nL t) B,.slice C (nK t) D]) t) (hT:Tb wx) :
  Calls Tryz.prog 352 #[.pointer (some ⟨c,0,none⟩),.agg #[.int .i64 (aj t),.int .i64 (av t),.string (ay t),.slice A (nL t) B,.slice C (nK t) D]] wx (Ie Mv made (fun s' w'=>s'=made++[t]/\∃ v xs,Xz W2 c QK (n+1) v xs w') t w0 wx):=by
 have h':=h.keep hb;have hat:qc (fun _=>True) wx 15 (.agg #[.int .i64 (aj t),.int .i64 (av t),.string (ay t),.slice A (nL t) B,.slice C (nK t) D]) t:=ha.move h'.size fun b h1 h2=>⟨True.intro,h'.block b h1 h2⟩;have hsz:=h'.size;refine (K9 hV hL c 15 t v n xs A C B D wx h'.made hn hat.at hT).mono ?_;rintro e w' (⟨b2,hbig,rfl⟩ | ⟨hB,hbig,rfl,hoff,g,cap,q0,f0,hg,hO⟩)
 ·exact ⟨b2.mono (by omega),.inl ⟨15,by unfold Mv;rw [hbig];rfl,by decide,rfl⟩⟩
 ·have hx:xs.length=n*5:=h'.made.row.1;have s2:=hB.size;have old:∀ b,b<W2.heap.size->b≠c->w'.heap[b]?=wx.heap[b]?:=fun b h1 h2=>hB.block b (by omega) h2 (fun e=>by have:=h'.own b e.symm;omega)
  have hgW:W2.heap.size<=g:=by
   rcases hg with hg | hg
   ·exact h'.own g hg
   ·omega
  refine ⟨⟨hB.os,hB.tape,hB.output,hB.size,fun b hb'=>old b (by omega) (by omega)⟩,.inr ⟨made++[t],by unfold Mv;rw [hbig];rfl,rfl,rfl,_,_,⟨q0,f0,by omega,hO,?_⟩,?_,hB.os.trans h'.os,hB.tape.trans h'.tape,hB.output.trans h'.output,by omega,fun b h1 h2=>(old b h1 h2).trans (h'.block b h1 h2),fun i hi=>?_⟩⟩
  ·simp only [Value.ownBlock,ne_eq,Option.some.injEq];omega
  ·intro b e;simp only [Value.ownBlock,Option.some.injEq] at e;omega
  ·by_cases e:i<n
   ·rw [pU hx e];exact h'.el i e
   ·obtain rfl:i=n:=by omega
    rw [uw hx,hf]
theorem Xz.docs {W2:World} {c:Nat} {QK:List Value} {v:Value} {xs:List Value} {w:World} {l:List T} (h:Xz W2 c QK l.length v xs w) (hn:l.length<=1000000) (ha:∀ i,(h:i<l.length)->qc (fun b=>b≠c) W2 15 (fv QK i) l[i]) (hs:∀ i,(h:i<l.length)->bR l[i]=false):cZ w v l:=by
 have h1:=h.made;have hx:xs.length=l.length*5:=h1.row.1;rcases h1.row.2 with ⟨rfl,h0⟩ | ⟨g,cap,cur,rfl,hb0,hg,hnc,hcm,rest⟩
 ·exact ⟨none,0,by rw [h0],hn,by omega,by omega,fun i hi=>by rw [aN] at hi;omega,fun i hi=>(qJ (hs i hi)).2⟩
 ·refine ⟨_,_,rfl,hn,hnc,by unfold maxLen at hcm;omega,fun i hi=>?_,fun i hi=>(qJ (hs i hi)).2⟩;rw [aN] at hi;have hc:∀ j,j<5->w.cell? ⟨g,i*5+j,none⟩=some (cx xs (i*5+j)):=fun j hj=>aX h1.row (dR (by omega));refine ⟨g,0,cx xs (i*5),cx xs (i*5+1),cx xs (i*5+2),cx xs (i*5+3),cx xs (i*5+4),rfl,(Array.getElem?_eq_some_iff.1 hg).1,(by rw [Nat.zero_add];exact hc 0 (by omega)),(by rw [Nat.zero_add];exact hc 1 (by omega)),(by rw [Nat.zero_add];exact hc 2 (by omega)),(by rw [Nat.zero_add];exact hc 3 (by omega)),(by rw [Nat.zero_add];exact hc 4 (by omega)),?_⟩;rw [fC l hi];show At w 13 (fv xs i) l[i];rw [h.el i hi];have h2:qc (fun _=>True) w 15 (fv QK i) l[i]:=(ha i hi).move h.size fun b k1 k2=>⟨True.intro,h.block b k1 k2⟩;exact (h2.fit (qJ (hs i hi)).1).at
theorem LG (doc:T):∀ (es:List (ByteArray×(T->Int⊕T))) (k:Nat) (a a':List T),iI doc es k a=.inr a'->∀ j,j<k->a'.getD j aM=a.getD j aM
 | [],k,a,a',h,j,hj=>by
  simp only [iI,Sum.inr.injEq] at h;rw [h]
 | e0::es,k,a,a',h,j,hj=>by
  rw [iI] at h;cases h0:mX e0.2 e0.1 (a.getD k aM) doc with
  | inl y=>rw [h0] at h;cases h
  | inr t =>
   rw [h0] at h;rw [LG doc es (k+1) (a.set k t) a' h j (by omega),List.getD_eq_getElem?_getD,List.getElem?_set_ne (by omega),<- List.getD_eq_getElem?_getD]
theorem ZW {g:T->Int⊕T} {op:ByteArray} {s doc t:T} (ho:op=fD) (h:mX g op s doc=.inr t):nL t<=nL s+1:=by
 unfold mX at h;rw [if_pos ho] at h;cases hg:g doc with
 | inl x=>rw [hg] at h;cases h
 | inr v =>
  rw [hg] at h;simp only [Sum.inr.injEq] at h;rw [<- h,aN,List.length_append];exact Nat.le_refl _
theorem QL (doc:T):∀ (es:List (ByteArray×(T->Int⊕T))) (k:Nat) (a a':List T),iI doc es k a=.inr a'->∀ j,(hj:j<es.length)->es[j].1=fD->nL (a'.getD (k+j) aM)<=nL (a.getD (k+j) aM)+1
 | [],k,a,a',h,j,hj,_=>absurd hj (Nat.not_lt_zero j)
 | e0::es,k,a,a',h,j,hj,ho=>by
  rw [iI] at h;cases h0:mX e0.2 e0.1 (a.getD k aM) doc with
  | inl y=>rw [h0] at h;cases h
  | inr t =>
   rw [h0] at h;cases j with
   | zero =>
    rw [Nat.add_zero,LG doc es (k+1) (a.set k t) a' h k (by omega)];by_cases hk:k<a.length
    ·rw [List.getD_eq_getElem?_getD,List.getElem?_set_self hk];exact ZW ho h0
    ·rw [List.getD_eq_getElem?_getD,List.getElem?_eq_none (by rw [List.length_set];omega)];exact Nat.zero_le _
   | succ j =>
    have:=QL doc es (k+1) (a.set k t) a' h j (by rw [List.length_cons] at hj;omega) ho;rw [show k+1+j=k+(j+1) by omega] at this;rw [show (a.set k t).getD (k+(j+1)) aM=a.getD (k+(j+1)) aM by rw [List.getD_eq_getElem?_getD,List.getElem?_set_ne (by omega),<- List.getD_eq_getElem?_getD]] at this;exact this
theorem XA (S:List (T×List T)) (i:Nat) (a:List T) {k:Nat} (hk:k<S.length) (h:¬ i=k):(gX S i a)[k]'(by rw [p8];exact hk)=S[k]:=by
 unfold gX;rw [List.getElem_modify,if_neg h]
theorem FM {gb:T->Int⊕T} {es:List (ByteArray×(T->Int⊕T))} {st st':List (T×List T)} {doc:T} (h:p9 gb es st doc=.inr st'):∃ b a,iI doc es 0 ((eX es.length st b)[dS st b]'(lQ _ _ _)).2=.inr a/\st'=gX (eX es.length st b) (dS st b) a:=by
 unfold p9 at h;cases hg:gb doc with
 | inl x=>rw [hg] at h;cases h
 | inr b =>
  rw [hg] at h;dsimp only at h;cases hr:iI doc es 0 ((eX es.length st b)[dS st b]'(lQ _ _ _)).2 with
  | inl x=>rw [hr] at h;cases h
  | inr a =>
   rw [hr] at h;simp only [Sum.inr.injEq] at h;exact ⟨b,a,hr,h.symm⟩
theorem XB (n:Nat) (st:List (T×List T)) (b:T):(eX n st b).length<=st.length+1:=by
 unfold eX;by_cases h:dS st b<st.length
 ·rw [if_pos h];omega
 ·rw [if_neg h,List.length_append];exact Nat.le_refl _
theorem XC {gb:T->Int⊕T} {es:List (ByteArray×(T->Int⊕T))} {st st':List (T×List T)} {doc:T} (h:p9 gb es st doc=.inr st'):st'.length<=st.length+1:=by
 obtain ⟨b,a,_,rfl⟩:=FM h;rw [p8];exact XB _ _ _
theorem ZX {gb:T->Int⊕T} {es:List (ByteArray×(T->Int⊕T))} {st st':List (T×List T)} {doc:T} {N:Nat} (h:p9 gb es st doc=.inr st') (hl:∀ i,(h:i<st.length)->∀ j,(∃ hj:j<es.length,es[j].1=fD)->nL (st[i].2.getD j aM)<=N):∀ i,(h:i<st'.length)->∀ j,(∃ hj:j<es.length,es[j].1=fD)->nL (st'[i].2.getD j aM)<=N+1:=by
 obtain ⟨b,a,hr,rfl⟩:=FM h;intro i hi j hj;have hi2:i<(eX es.length st b).length:=by rw [p8] at hi;exact hi
 by_cases e:dS st b=i
 ·subst e;rw [FK _ _ _ hi2];have h1:=QL doc es 0 _ a hr j hj.1 hj.2;rw [Nat.zero_add] at h1;have h2:=Xw (n:=es.length) b hl j hj;omega
 ·have e1:(gX (eX es.length st b) (dS st b) a)[i]=(eX es.length st b)[i]:=XA _ _ _ hi2 e;rw [e1];have hle:dS st b<=st.length:=List.findIdx_le_length;by_cases e2:dS st b<st.length
  ·have e3:eX es.length st b=st:=by unfold eX;rw [if_pos e2]
   simp only [e3] at hi2 ⊢;have:=hl i hi2 j hj;omega
  ·have e3:eX es.length st b=st++[(b,List.replicate es.length aM)]:=by unfold eX;rw [if_neg e2]
   have hi3:i<st.length:=by
    rw [e3,List.length_append,List.length_cons,List.length_nil] at hi2;omega
   simp only [e3,List.getElem_append_left hi3];have:=hl i hi3 j hj;omega
theorem jT.start (w:World) (NA:Option Addr) (nc:Nat) (bv ev:Value) (ops:List ByteArray):jT w w.heap.size NA nc bv ev ops (fun b=>if b=w.heap.size then .box else .no) (.slice none 0 0) [] (fun _=>0) (fun _=>[]) [] (w.alloc (.cells #[.slice none 0 0,.slice NA (ops.length+1) nc,bv,ev,.slice none 0 0] 268)):=by
 refine ⟨if_pos rfl,fun b hb=>?_,by simp [go_sem],by simp [go_sem],by simp [go_sem],by simp [go_sem],by simp [go_sem],by simp [go_sem],by simp [go_sem],World.ownsRow_nil _ _ _ _,fun b e=>by simp [Value.ownBlock] at e,fun i hi=>absurd hi (Nat.not_lt_zero i),fun i hi=>absurd hi (Nat.not_lt_zero i),fun i hi=>absurd hi (Nat.not_lt_zero i),fun i hi=>absurd hi (Nat.not_lt_zero i),fun i hi=>absurd hi (Nat.not_lt_zero i),fun i hi=>absurd hi (Nat.not_lt_zero i)⟩;by_cases e:b=w.heap.size
 ·subst e;exact ⟨Nat.le_refl _,by simp⟩
 ·simp only [if_neg e] at hb;exact absurd rfl hb
def Ab (gb:T->Int⊕T) (es:List (ByteArray×(T->Int⊕T))) (ks:List ByteArray) (l:List T):(Nat×Int)⊕List T:=match dM (p9 gb es) l 0 [] with
 | .inl e=>.inl e
 | .inr st=>dM Mv (st.map (fZ ks)) 0 []
theorem OY {w wr:World} {lo g n cap:Nat} {xs:List Value} (h:w.ownsRow lo 25 5 (.slice (some ⟨g,0,none⟩) n cap) n xs) {k:Nat} (hk:k<n) {u0 u1 u2 u3 u4:Value} (hf:fv xs k=.agg #[u0,u1,u2,u3,u4]) (hb:wr.heap[g]?=w.heap[g]?) :
  wr.cell? ⟨g,0+k*5,none⟩=some u0/\wr.cell? ⟨g,0+k*5+1,none⟩=some u1/\wr.cell? ⟨g,0+k*5+2,none⟩=some u2/\wr.cell? ⟨g,0+k*5+3,none⟩=some u3/\wr.cell? ⟨g,0+k*5+4,none⟩=some u4:=by
 have hx:xs.length=n*5:=h.1;unfold fv at hf;simp only [Value.agg.injEq,Array.mk.injEq,List.cons.injEq,and_true] at hf
 have hc:∀ r,r<5->wr.cell? ⟨g,0+k*5+r,none⟩=some (cx xs (k*5+r)):=fun r hr'=>by
  rw [aC hb,show 0+k*5+r=k*5+r by omega];exact aX h (dR (by omega))
 refine ⟨?_,?_,?_,?_,?_⟩
 ·rw [<- hf.1];exact hc 0 (by omega)
 ·rw [<- hf.2.1];exact hc 1 (by omega)
 ·rw [<- hf.2.2.1];exact hc 2 (by omega)
 ·rw [<- hf.2.2.2.1];exact hc 3 (by omega)
 ·rw [<- hf.2.2.2.2];exact hc 4 (by omega)
theorem LH {Tb:World->Prop} (hV:bF Tb) (hL:aV Tb) (w0 w2:World) (c:Nat) (NA:Option Addr) (nc:Nat) (bv ev:Value) (ops:List ByteArray) (L:Nat->vB) (gv:Value) (xs:List Value) (rb:Nat->Nat) (ys:Nat->List Value) (st:List (T×List T)) (ks:List ByteArray) (h:jT w0 c NA nc bv ev ops L gv xs rb ys st w2) (hb:Below w0.heap.size w0 w2) (hk:bI w0 (.slice NA (ops.length+1) nc) ks) (ho:ops.length<=100000) (hn:st.length<=1000000) (hT:Tb w0) :
  Calls Tryz.prog 350 #[.pointer (some ⟨c,0,none⟩),gv,.func (Fn.func 352) #[.pointer (some ⟨c,0,none⟩)] #[]] w2 fun e w'=>Below w0.heap.size w2 w'/\((∃ (k:Nat) (x:Int),dM Mv (st.map (fZ ks)) 0 []=.inl (k,x)/\x≠0/\e=.returned (.tuple #[.slice none 0 0,.int .i64 k,.int .i64 x]))\/∃ r v,dM Mv (st.map (fZ ks)) 0 []=.inr r/\e=.returned (.tuple #[v,.int .i64 0,.int .i64 0])/\cZ w' v r):=by
 obtain ⟨GA,gc,rfl,_⟩:=h.elems hb hk ho;have hcl:=h.low c (by rw [h.lc];intro e;cases e);have hlen:(st.map (fZ ks)).length=st.length:=List.length_map _
 have hat:∀ i,(hi:i<(st.map (fZ ks)).length)->qc (fun b=>b≠c) w2 15 (fv xs i) (st.map (fZ ks))[i]:=fun i hi=>by
  rw [List.getElem_map];exact h.aiF hb hk ho (by rw [hlen] at hi;exact hi)
 have hmain:=TF Mv (fun k s w'=>s=(st.map (fZ ks)).take k/\∃ v zs,Xz w2 c xs k v zs w') 352 (fun _ _=>rfl) (.pointer (some ⟨c,0,none⟩)) c GA gc (st.map (fZ ks)) [] w0 w2 (by rw [hlen];exact hn) ⟨rfl,_,_,Xz.start xs h.c0 h.f0 hcl.2⟩
  (fun k s w' hI=>by obtain ⟨_,v,zs,hE⟩:=hI;exact ⟨v,hE.made.cell⟩)
  (fun k s w' hI=>by obtain ⟨_,v,zs,hE⟩:=hI;exact Nat.le_trans hb.size hE.size)
  (fun k s d wr hkl hd hI=>by
   obtain ⟨hs,v,zs,hE⟩:=hI;have ha:=hat k hkl;rw [hd] at ha;obtain ⟨g1,A,C,B,D,_,hf,_,_,_⟩:=ha.at.open;have hks:k<st.length:=by rw [hlen] at hkl;exact hkl
   have hg:=h.grow;rcases h.grow.2 with ⟨e1,h0⟩ | ⟨g,cap,cur,e1,hb0,hgb,rest⟩
   ·omega
   ·simp only [Value.slice.injEq,true_and] at e1;obtain ⟨rfl,rfl⟩:=e1;have hgl:=h.gl g rfl;have hgw:=h.low g (by rw [hgl];intro e;cases e);obtain ⟨p0,p1,p2,p3,p4⟩:=OY hg hks hf (hE.block g hgw.2 (fun e=>by rw [e,h.lc] at hgl;cases hgl));refine ⟨g,0,A,B,C,D,rfl,p0,p1,p2,p3,p4,fun wx hbx=>?_⟩;rw [hf] at ha
    have hTx:Tb wx:=hL w0 hT w0 wx hT (by
     have h':=hE.keep hbx;exact ⟨h'.os.trans hb.os,h'.tape.trans hb.tape,h'.output.trans hb.output,Nat.le_trans hb.size h'.size,fun b hb'=>(h'.block b (Nat.lt_of_lt_of_le hb' hb.size) (by omega)).trans (hb.block b hb')⟩)
    refine (ZV hV hL w2 w0 wr wx c k xs v zs s d A C B D hE hbx (by omega) hcl.1 hcl.2 hf ha hTx).mono ?_;rintro e w' ⟨k1,k2 | ⟨s',k2,k3,k4,k5⟩⟩
    ·exact ⟨k1,.inl k2⟩
    ·refine ⟨k1,.inr ⟨s',k2,k3,?_,k5⟩⟩;rw [k4,hs,List.take_add_one,List.getElem?_eq_getElem hkl,hd];rfl)
 rw [hlen] at hmain;refine hmain.mono ?_;rintro e w' ⟨k1,k2 | ⟨s',v,k2,⟨k3,v',zs,hE⟩,k5,k6⟩⟩
 ·exact ⟨k1,.inl k2⟩
 ·obtain ⟨q1,q2⟩:=QJ _ _ _ _ k2;rw [List.nil_append] at q1;obtain rfl:v'=v:=Option.some.inj (hE.made.cell.symm.trans k5);refine ⟨k1,.inr ⟨s',v',k2,k6,?_⟩⟩;rw [q1];rw [<- hlen] at hE;exact hE.docs (by rw [hlen];exact hn) hat q2
def stB:ByteArray:=⟨#[98]⟩
def st0:ByteArray:=⟨#[48]⟩
def st1:ByteArray:=⟨#[49]⟩
def jv:ByteArray:=⟨#[95,105,100]⟩
def iJ:ByteArray:=⟨#[97]⟩
def gJ:ByteArray:=⟨#[99]⟩
def rT (k:Nat):List ByteArray:=[[iJ],[gJ],[iJ,stB],[iJ,st1],[jv],[gJ,st0]].getD k []
theorem TG:(List.range 6).map (fun k=>bW (rH k))=(List.range 6).map rT:=by kernel_rfl
theorem CO {k:Nat} (h:k<6):bW (rH k)=rT k:=by
 have:=congrArg (fun l=>l[k]?) TG;simpa [h] using this
theorem ZY:((List.range 6).all fun k=>iW (rH k))=true:=by kernel_rfl
theorem XD {k:Nat} (h:k<6):iW (rH k)=true:=List.all_eq_true.1 ZY k (List.mem_range.2 h)
def idE (d:T):Int⊕T:=.inr (aA [jv] d)
theorem FN {doc:T} {op:ByteArray} {g:T->Int⊕T} {es:List (ByteArray×(T->Int⊕T))} {k:Nat} {a:List T} {x t:T} {a':List T} (hx:a.getD k aM=x) (h:mX g op x doc=.inr t) (ha:a.set k t=a'):iI doc ((op,g)::es) k a=iI doc es (k+1) a':=by
 subst hx;subst ha;rw [iI,h]
theorem zA {α:Type} (x:α) (f:α->α):∀ A:List α,(A++[x]).modify A.length f=A++[f x]
 | []=>rfl
 | a::r=>by
  have:=zA x f r;rw [List.cons_append,List.length_cons,List.modify_succ_cons,this];rfl
end Go.Proofs.YtknakfpciccoaaaGreatDoor
