import Derived.Test.YtknakfpciccoaaaGreatDoorZC32
/- The walk of gathered: a group that there was none of. -/
set_option maxHeartbeats 8000000
set_option maxRecDepth 100000
namespace Go.Proofs.YtknakfpciccoaaaGreatDoor
open Go.RowKit
theorem LB {n:Nat} {st:List (T×List T)} {b:T} (h:dS st b=st.length):eX n st b=st++[(b,List.replicate n aM)]:=by
 unfold eX;rw [if_neg (by omega)]
theorem jT.ZP {w0:World} {c:Nat} {NA:Option Addr} {nc:Nat} {bv ev:Value} {ops:List ByteArray} {L:Nat->vB} {gv:Value} {xs:List Value} {rb:Nat->Nat} {ys:Nat->List Value} {st:List (T×List T)} {w w2 W4 w6:World} (h:jT w0 c NA nc bv ev ops L gv xs rb ys st w2) (hw:w0.heap.size<=w.heap.size) (hbf:Below w.heap.size w w2) (hb:Below w2.heap.size w2 W4) {r:Nat} {zs:List Value} (hr0:w2.heap.size<=r) (hr:W4.ownsRow w2.heap.size 25 5 (.slice (some ⟨r,0,none⟩) (ops.length+1) (ops.length+1)) (ops.length+1) zs) {b:T} {v:Value} (ha:At w0 13 v b) (hbk:bM b) (hz:fv zs 0=v/\∀ k,1<=k->k<ops.length+1->fv zs k=.agg #[.int .i64 0,.int .i64 0,.string ⟨#[]⟩,.slice none 0 0,.slice none 0 0]) (hG:W4.grownBy w6 gv.ownBlock) {g cap n:Nat} {y0 y1 y2 y3 y4:Value} (hn:n=W4.heap.size) (hat:gv.ownBlock=some g\/g=n) (hlt:g<w6.heap.size) (hgc:g≠c) (hown:w6.ownsRow w0.heap.size 25 5 (.slice (some ⟨g,0,none⟩) (st.length+1) cap) (st.length+1) (xs++[y0,y1,y2,y3,y4])) (hc:w6.cell? ⟨c,4,none⟩=some gv) (wF:World) (hF:wF=(bG w6 g (st.length*5) (.int .i64 6) (.int .i64 0) (.string ⟨#[]⟩) (.slice (some ⟨r,0,none⟩) (ops.length+1) (ops.length+1)) (.slice NA (ops.length+1) nc)).setCell ⟨c,4,none⟩ (.slice (some ⟨g,0,none⟩) (st.length+1) cap)\/wF=bG (w6.setCell ⟨c,4,none⟩ (.slice (some ⟨g,0,none⟩) (st.length+1) cap)) g (st.length*5) (.int .i64 6) (.int .i64 0) (.string ⟨#[]⟩) (.slice (some ⟨r,0,none⟩) (ops.length+1) (ops.length+1)) (.slice NA (ops.length+1) nc)) :
  Below w0.heap.size w wF/\∃ L' gv' xs' rb' ys',jT w0 c NA nc bv ev ops L' gv' xs' rb' ys' (st++[(b,List.replicate ops.length aM)]) wF/\∀ b,b<w.heap.size->L b=.no->L' b=.no/\wF.heap[b]?=w.heap[b]?:=by
 have hx:xs.length=st.length*5:=h.grow.1
 have aiB:ZO w0.heap.size c g st.length cap xs [.int .i64 6,.int .i64 0,.string ⟨#[]⟩,.slice (some ⟨r,0,none⟩) (ops.length+1) (ops.length+1),.slice NA (ops.length+1) nc] w6 wF:=by
  rcases hF with rfl | rfl
  ·exact afJ hown hx hgc hc _ _ _ _ _
  ·exact afK hown hx hgc hc _ _ _ _ _
 obtain ⟨k1,L',xs',k3,k2⟩:=h.snoc hb hG (hat.imp id fun e=>by omega) hlt hr0 hr (by rw [hz.1];exact ha) hbk hz.2 aiB;exact ⟨(hbf.mono hw).trans k1,L',_,xs',_,_,k2,fun b h1 h2=>⟨(k3 b (Nat.lt_of_lt_of_le h1 hbf.size) h2).1,(k3 b (Nat.lt_of_lt_of_le h1 hbf.size) h2).2.trans (hbf.block b h1)⟩⟩
theorem Aa (w0:World) (c:Nat) (NA:Option Addr) (nc:Nat) (bv ev:Value) (ops:List ByteArray) (L:Nat->vB) (gv:Value) (xs:List Value) (rb:Nat->Nat) (ys:Nat->List Value) (st:List (T×List T)) (b:T) (A C:Option Addr) (B D:Nat) (w:World) (ks:List ByteArray) (hI:jT w0 c NA nc bv ev ops L gv xs rb ys st w) (hb0:Below w0.heap.size w0 w) (hk:bI w0 (.slice NA (ops.length+1) nc) ks) (ho:ops.length<=100000) (hn:st.length<=1000000) (ha:At w0 13 (.agg #[.int .i64 (aj b),.int .i64 (av b),.string (ay b),.slice A (nL b) B,.slice C (nK b) D]) b) (hbk:bM b) (hnew:dS st b=st.length) :
  Calls Tryz.prog 359 #[.pointer (some ⟨c,0,none⟩),.agg #[.int .i64 (aj b),.int .i64 (av b),.string (ay b),.slice A (nL b) B,.slice C (nK b) D]] w (CJ w0 c NA nc bv ev ops L st b w):=by
 obtain ⟨iV,Em,En,Eo,Ep⟩:=info_parts uT;have Rk:∀ (fn:Fn) (first cap:Array Value) (w:World),(Instr.makeFunc fn first cap).run Tryz.prog w=.ok (.func fn first cap) w:=fun _ _ _ _=>rfl;have HB1:=ak (aY w (vC b A B C D));have HX:=ak (aR w (.int .i64 (aj b)) (.int .i64 (av b)) (.string (ay b)) (.slice A (nL b) B) (.slice C (nK b) D));have HI1:=ak (hI.keep HB1.out);have GN:=ak (hb0.trans (HB1.out.mono hb0.size));obtain ⟨GA,gc,hgv,hel⟩:=HI1.out.elems GN.out hk ho
 have Xt:=ak (mJ (fun t=>yc (elt t 0) b) 361 (fun _ _=>rfl) (.pointer (some ⟨w.heap.size,0,none⟩)) 15 GA gc (aO 5 0 ByteArray.empty (st.map (fZ ks)) []) _ hel (by rw [aN,List.length_map];omega) (fun k hk' wr v hb ha'=>by
  rw [aN,List.length_map] at hk';rw [fC _ (by rw [List.length_map];exact hk'),List.getElem_map] at ha' ⊢;exact FI 15 13 v _ w.heap.size b A C B D wr ha' (by unfold fZ;rw [aN];simp) (by omega) (by rw [kK];exact (hI.Xr k hk').2) ((ha.keep GN.out).keep hb) hbk (HX.out.stay hb)))
 rw [aN,List.length_map] at Xt;have Hn:Hid (∀ k,(h:k<st.length)->elt (aO 5 0 ByteArray.empty (st.map (fZ ks)) []) k=fZ ks st[k]):=fun k h=>by rw [fC _ (by rw [List.length_map];exact h),List.getElem_map]
 have Hold:=ak hnew;have HB0:=ak hb0;have Hk:=ak hk;have Ha:=ak ha;have Hbk:=ak hbk;have Ho:=ak ho;have hnn:=ak hn;have hcw:=HI1.out.low c (by rw [HI1.out.lc];intro e;cases e);have c4:=HI1.out.c4;rw [hgv] at c4;subst hgv;clear hI hb0 hk ha hbk hel hnew ho hn;go_in;go_wp2_with fail;refine Xt.out.mono ?_;rintro e w2 ⟨b2,m,rfl,⟨rfl,hno⟩ | ⟨k,rfl,hk,hp,hbef⟩⟩
 ·have HI2:=ak (HI1.out.keep b2);have kr:=ak (HX.out.stay b2);have fI:=ak (HB1.out.trans (b2.mono HB1.out.size));have ZQ:=ak HB0.out.size;have hl:=ak (HI2.out.low c (by rw [HI2.out.lc];intro e;cases e));clear b2 Xt hno;have c42:=HI2.out.c4;go_upto_region 4 with fail;go_cut [] (fun wx=>Hid (Below w0.heap.size w wx/\∃ L' gv' xs' rb' ys',jT w0 c NA nc bv ev ops L' gv' xs' rb' ys' (st++[(b,List.replicate ops.length aM)]) wx/\∀ b,b<w.heap.size->L b=.no->L' b=.no/\wx.heap[b]?=w.heap[b]?))
  case first =>
   have ZR:Hid (Below w2.heap.size w2 w2.drew):=au _;have rF:Hid (Below w2.heap.size w2 (w2.alloc (.cells #[.int .i64 0,.int .i64 0,.string ⟨#[]⟩,.slice none 0 0,.slice none 0 0] 25)).drew):=(aY _ _).drew;have tV:=ak (aY w2 (.cells #[.int .i64 0,.int .i64 0,.string ⟨#[]⟩,.slice none 0 0,.slice none 0 0] 25));have Dp:Hid (xs.length=st.length*5):=HI2.out.grow.1;have HC:Hid (∀ wx,Below w2.heap.size w2 wx->_):=fun wx hq=>Tn c (ops.length+1) NA nc b A C B D wx (by omega) (by have:=Ho.out;omega) (Nat.lt_of_lt_of_le hl.out.2 hq.size) ((hq.cell (p:=⟨c,1,none⟩) hl.out.2).trans HI2.out.c1);have eO:=ak (kr.out.stay tV.out);have c4a:=(tV.out.cell (p:=⟨c,4,none⟩) hl.out.2).trans c42;have r0:=kr.out.q0;have r1:=kr.out.q1;have r2:=kr.out.q2;have r3:=kr.out.q3;have r4:=kr.out.q4;have ra0:=eO.out.q0;have ra1:=eO.out.q1;have ra2:=eO.out.q2;have ra3:=eO.out.q3;have ra4:=eO.out.q4
   have HGc:Hid (∀ g n,c<n->((Value.slice GA st.length gc).ownBlock=some g\/g=n)->g≠c):=fun g n hn hg e=>by
    subst e;rcases hg with hg | hg
    ·have:=HI2.out.gl _ hg;rw [HI2.out.lc] at this;cases this
    ·omega
   have HAp:Hid (some c≠(Value.slice GA st.length gc).ownBlock):=fun e=>by
    have:=HI2.out.gl _ e.symm;rw [HI2.out.lc] at this;cases this
   have x9:(st.length:Int)<(st.length:Int)+1:=by omega
   clear HB1 HX GN Hn Hold HB0 Hk hcw c4 HI1 Rk
   go_region_law (first | (refine step_append_lies _ (by rfl) _ _ _ (by rfl) w0.heap.size 25 iV _ 5 80 Tryz.underlying22 Em En Eo Ep rfl (by omega) (.slice GA st.length gc) st.length xs (by rfl) Tt.out.grow ⟨w3.heap.size,0,none⟩ 1 1 [.int .i64 0,.int .i64 0,.string ⟨#[]⟩,.slice none 0 0,.slice none 0 0] (by rfl) (by rfl) (World.news_of_block (cs:=#[.int .i64 0,.int .i64 0,.string ⟨#[]⟩,.slice none 0 0,.slice none 0 0]) (t:=25) (fr:=(0,0)) (heap_alloc_new w3 _)) (by simp [Value.oneCell']) (by omega) (by unfold maxLen;have:=hnn.out;omega) (by have:=hnn.out;omega) (by first | exact OU.out | (simp only [World.size_alloc];have:=OU.out;omega)) (w3.heap.size+1) (by simp) ?_;intro g cap w6 hown6 eG dV vH;have hgc:g≠c:=HGc.out g _ (by have:=hl.out.2;have:=OU.out;have:=HB3.out.size;simp;omega) dV;have hcg:c≠g:=fun e=>hgc e.symm;have iN:=ak (eG.block c (Tt.out.low c (by rw [Tt.out.lc];intro e;cases e)).2 HAp.out);have c6:=(aC iN.out 4).trans Tt.out.c4;have f6:=(World.frozen?_of_block (a:=⟨c,4,none⟩) iN.out).trans Tt.out.f4;have y0:w6.cell? ⟨g,st.length*5,none⟩=some (.int .i64 0):=dJ hown6 Dp.out 0 (by omega) rfl;have z0:w6.frozen? ⟨g,st.length*5,none⟩=false:=hown6.frozenAt _;have y1:w6.cell? ⟨g,st.length*5+1,none⟩=some (.int .i64 0):=dJ hown6 Dp.out 1 (by omega) rfl;have z1:w6.frozen? ⟨g,st.length*5+1,none⟩=false:=hown6.frozenAt _;have y2:w6.cell? ⟨g,st.length*5+2,none⟩=some (.string ⟨#[]⟩):=dJ hown6 Dp.out 2 (by omega) rfl;have z2:w6.frozen? ⟨g,st.length*5+2,none⟩=false:=hown6.frozenAt _;have y3:w6.cell? ⟨g,st.length*5+3,none⟩=some (.slice none 0 0):=dJ hown6 Dp.out 3 (by omega) rfl;have z3:w6.frozen? ⟨g,st.length*5+3,none⟩=false:=hown6.frozenAt _;have y4:w6.cell? ⟨g,st.length*5+4,none⟩=some (.slice none 0 0):=dJ hown6 Dp.out 4 (by omega) rfl;have z4:w6.frozen? ⟨g,st.length*5+4,none⟩=false:=hown6.frozenAt _;have Wj:=ak (jT.ZP HI2.out ZQ.out fI.out bT.out HT3.out.1 HT4.out Ha.out Hbk.out HT3.out.2.2 eG (by simp) dV vH hgc hown6 c6 _ (.inl rfl));have Wm:=ak (jT.ZP HI2.out ZQ.out fI.out bT.out HT3.out.1 HT4.out Ha.out Hbk.out HT3.out.2.2 eG (by simp) dV vH hgc hown6 c6 _ (.inr rfl));clear hown6 eG dV vH iN) | (refine step_append_lies _ (by rfl) _ _ _ (by rfl) w0.heap.size 25 iV _ 5 80 Tryz.underlying22 Em En Eo Ep rfl (by omega) (.slice GA st.length gc) st.length xs (by rfl) HI3.out.grow ⟨w2.heap.size,0,none⟩ 1 1 [.int .i64 0,.int .i64 0,.string ⟨#[]⟩,.slice none 0 0,.slice none 0 0] (by rfl) (by rfl) (World.news_of_block (cs:=#[.int .i64 0,.int .i64 0,.string ⟨#[]⟩,.slice none 0 0,.slice none 0 0]) (t:=25) (fr:=(0,0)) HZ3.out) (by simp [Value.oneCell']) (by omega) (by unfold maxLen;have:=hnn.out;omega) (by have:=hnn.out;omega) (by first | exact OU.out | (simp only [World.size_alloc];have:=OU.out;omega)) w3.heap.size (by simp) ?_;intro g cap w6 hown6 eG dV vH;have hgc:g≠c:=HGc.out g _ (by have:=hl.out.2;have:=OU.out;have:=HB3.out.size;simp;omega) dV;have hcg:c≠g:=fun e=>hgc e.symm;have iN:=ak (eG.block c (HI3.out.low c (by rw [HI3.out.lc];intro e;cases e)).2 HAp.out);have c6:=(aC iN.out 4).trans HI3.out.c4;have f6:=(World.frozen?_of_block (a:=⟨c,4,none⟩) iN.out).trans HI3.out.f4;have y0:w6.cell? ⟨g,st.length*5,none⟩=some (.int .i64 0):=dJ hown6 Dp.out 0 (by omega) rfl;have z0:w6.frozen? ⟨g,st.length*5,none⟩=false:=hown6.frozenAt _;have y1:w6.cell? ⟨g,st.length*5+1,none⟩=some (.int .i64 0):=dJ hown6 Dp.out 1 (by omega) rfl;have z1:w6.frozen? ⟨g,st.length*5+1,none⟩=false:=hown6.frozenAt _;have y2:w6.cell? ⟨g,st.length*5+2,none⟩=some (.string ⟨#[]⟩):=dJ hown6 Dp.out 2 (by omega) rfl;have z2:w6.frozen? ⟨g,st.length*5+2,none⟩=false:=hown6.frozenAt _;have y3:w6.cell? ⟨g,st.length*5+3,none⟩=some (.slice none 0 0):=dJ hown6 Dp.out 3 (by omega) rfl;have z3:w6.frozen? ⟨g,st.length*5+3,none⟩=false:=hown6.frozenAt _;have y4:w6.cell? ⟨g,st.length*5+4,none⟩=some (.slice none 0 0):=dJ hown6 Dp.out 4 (by omega) rfl;have z4:w6.frozen? ⟨g,st.length*5+4,none⟩=false:=hown6.frozenAt _;have Wj:=ak (jT.ZP HI2.out ZQ.out fI.out bT.out HT3.out.1 HT4.out Ha.out Hbk.out HT3.out.2.2 eG rfl dV vH hgc hown6 c6 _ (.inl rfl));have Wm:=ak (jT.ZP HI2.out ZQ.out fI.out bT.out HT3.out.1 HT4.out Ha.out Hbk.out HT3.out.2.2 eG rfl dV vH hgc hown6 c6 _ (.inr rfl));clear hown6 eG dV vH iN) | (go_simp;go_wp2_with (go_at_call 362;refine (HC.out _ ZR.out).mono ?_;rintro e w3 ⟨b3,r,zs,hr0,rfl,hrow,hz0,hzk⟩;have HB3:=ak (ZR.out.trans (b3.mono ZR.out.size));have HT3:=ak (And.intro (Nat.le_trans ZR.out.size hr0) (And.intro (wI hrow (fun b hb=>Nat.le_trans ZR.out.size (hrow.lt b hb).1)) (And.intro hz0 hzk)));have HI3:=ak (HI2.out.keep HB3.out);have Tt:=ak (HI3.out.keep ((Below.refl _ _).alloc (Nat.le_refl _) (.cells #[.int .i64 0,.int .i64 0,.string ⟨#[]⟩,.slice none 0 0,.slice none 0 0] 25)));have OU:Hid (w0.heap.size<=w3.heap.size):=Nat.le_trans (Nat.le_of_lt (Nat.lt_of_le_of_lt hl.out.1 hl.out.2)) HB3.out.size;have c43:=HI3.out.c4;have amw:=Tt.out.c4;have bT:=ak (HB3.out.alloc HB3.out.size (.cells #[.int .i64 0,.int .i64 0,.string ⟨#[]⟩,.slice none 0 0,.slice none 0 0] 25));have HT4:=ak (HT3.out.2.1.alloc (.cells #[.int .i64 0,.int .i64 0,.string ⟨#[]⟩,.slice none 0 0,.slice none 0 0] 25));have mV:=ak True.intro;clear b3 hr0 hrow hz0 hzk);clear mV) | (go_simp;go_wp2_with (go_at_call 362;refine (HC.out _ rF.out).mono ?_;rintro e w3 ⟨b3,r,zs,hr0,rfl,hrow,hz0,hzk⟩;have HB3:=ak (rF.out.trans (b3.mono rF.out.size));have HT3:=ak (And.intro (Nat.le_trans rF.out.size hr0) (And.intro (wI hrow (fun b hb=>Nat.le_trans rF.out.size (hrow.lt b hb).1)) (And.intro hz0 hzk)));have HI3:=ak (HI2.out.keep HB3.out);have HZ3:=ak ((b3.block w2.heap.size (by show _<(w2.alloc (.cells #[.int .i64 0,.int .i64 0,.string ⟨#[]⟩,.slice none 0 0,.slice none 0 0] 25)).heap.size;simp)).trans (heap_alloc_new w2 (.cells #[.int .i64 0,.int .i64 0,.string ⟨#[]⟩,.slice none 0 0,.slice none 0 0] 25)));have OU:Hid (w0.heap.size<=w3.heap.size):=Nat.le_trans (Nat.le_of_lt (Nat.lt_of_le_of_lt hl.out.1 hl.out.2)) HB3.out.size;have c43:=HI3.out.c4;have bT:=ak HB3.out;have HT4:=ak HT3.out.2.1;clear b3 hr0 hrow hz0 hzk)))
   all_goals
    go_wp2_with fail;go_meet;unfold bG at Wj Wm
    first | with_reducible exact Wj | with_reducible exact Wm
  case rest =>
   obtain ⟨HBn,L',gv',xs',rb',ys',HG,HL⟩:=hcut.out;have HLL:=ak HL;have HBN:=ak HBn;have HGR:=ak HG;have HS:=ak (LB (n:=ops.length) Hold.out);obtain ⟨g,cap,Xu,hrc⟩:=HG.QI (i:=st.length) (by rw [List.length_append];simp);rw [List.length_append,List.length_cons,List.length_nil] at Xu;subst Xu;have c4f:=HG.c4;have x1:(st.length:Int)<(st.length:Int)+1:=by omega
   have x2:¬ (st.length:Int)<0:=by omega
   clear HG HBn hcut HL
   have vW:Hid (CJ w0 c NA nc bv ev ops L st b w (.returned (.slice (some ⟨rb' st.length,if ops.length=0 then 0 else 5,none⟩) ops.length ops.length)) wc):=by
    refine ⟨HBN.out,L',_,xs',rb',ys',by rw [HS.out];exact HGR.out,HLL.out,_,fun h=>?_,by rw [Hold.out]⟩;rw [if_neg];intro e;exact h (List.length_eq_zero_iff.1 e)
   clear HGR HBN HS HLL ZQ Hold HI2 fI HB0 Hn HI1 HB1 GN HX kr Hk Ha c42 c4 hcw;rcases Nat.eq_zero_or_pos ops.length with e0 | e0
   ·rw [if_pos e0,e0] at vW;go_wp2_with fail
    all_goals (go_ret;first | exact vW.out | (exfalso;omega))
   ·rw [if_neg (by omega)] at vW;have e1:ops≠[]:=fun e=>by rw [e] at e0;exact absurd e0 (Nat.lt_irrefl 0)
    go_wp2_with fail
    all_goals first | contradiction | (go_ret;exact vW.out)
 ·exfalso;rw [Hn.out k hk,kK] at hp;have HK:=CG hk hp (fun j hj hjk=>by have:=uy hbef hjk;rwa [Hn.out j hj,kK] at this);have:=Hold.out;omega
theorem Iw (w0:World) (c:Nat) (NA:Option Addr) (nc:Nat) (bv ev:Value) (ops:List ByteArray) (L:Nat->vB) (gv:Value) (xs:List Value) (rb:Nat->Nat) (ys:Nat->List Value) (st:List (T×List T)) (b:T) (A C:Option Addr) (B D:Nat) (w:World) (ks:List ByteArray) (hI:jT w0 c NA nc bv ev ops L gv xs rb ys st w) (hb0:Below w0.heap.size w0 w) (hk:bI w0 (.slice NA (ops.length+1) nc) ks) (ho:ops.length<=100000) (hn:st.length<=1000000) (ha:At w0 13 (.agg #[.int .i64 (aj b),.int .i64 (av b),.string (ay b),.slice A (nL b) B,.slice C (nK b) D]) b) (hbk:bM b) :
  Calls Tryz.prog 359 #[.pointer (some ⟨c,0,none⟩),.agg #[.int .i64 (aj b),.int .i64 (av b),.string (ay b),.slice A (nL b) B,.slice C (nK b) D]] w (CJ w0 c NA nc bv ev ops L st b w):=by
 by_cases h:dS st b<st.length
 ·exact z8 w0 c NA nc bv ev ops L gv xs rb ys st b A C B D w ks hI hb0 hk ho (by omega) ha hbk h
 ·exact Aa w0 c NA nc bv ev ops L gv xs rb ys st b A C B D w ks hI hb0 hk ho hn ha hbk (by have:dS st b<=st.length:=List.findIdx_le_length;omega)
def mX (g:T->Int⊕T) (op:ByteArray) (s doc:T):Int⊕T:=if op=fD then (match g doc with | .inl x=>.inl x | .inr v=>.inr (aO 5 0 ByteArray.empty (lH s++[v]) [])) else rR g op s doc
def q9 (st:List (T×List T)) (i j:Nat) (t:T):List (T×List T):=st.modify i fun s=>(s.1,s.2.set j t)
theorem jC (st:List (T×List T)) (i j:Nat) (t:T):(q9 st i j t).length=st.length:=List.length_modify _ _ _
theorem yL (st:List (T×List T)) (i j:Nat) (t:T) {k:Nat} (hk:k<st.length):(q9 st i j t)[k]'(by rw [jC];exact hk)=if i=k then (st[k].1,st[k].2.set j t) else st[k]:=by
 unfold q9;rw [List.getElem_modify]
theorem jT.put {w0:World} {c:Nat} {NA:Option Addr} {nc:Nat} {bv ev:Value} {ops:List ByteArray} {L:Nat->vB} {gv:Value} {xs:List Value} {rb:Nat->Nat} {ys:Nat->List Value} {st:List (T×List T)} {w:World} (h:jT w0 c NA nc bv ev ops L gv xs rb ys st w) {L':Nat->vB} {w5:World} {i j:Nat} (hi:i<st.length) (hj:j<ops.length) (hk:∀ b,L b≠.no->L b≠.Tp i j->L' b=L b/\w5.heap[b]?=w.heap[b]?) (hn:∀ b,L' b≠.no->w0.heap.size<=b/\b<w5.heap.size) {u0 u1 u2 u3 u4:Value} {t:T} (ha:xH w0 L' w5 i j ops[j] (.agg #[u0,u1,u2,u3,u4]) t) :
  jT w0 c NA nc bv ev ops L' gv xs rb (fun k=>if k=i then nE (ys i) (j+1) u0 u1 u2 u3 u4 else ys k) (q9 st i j t) (bG w5 (rb i) ((j+1)*5) u0 u1 u2 u3 u4):=by
 have hW:∀ b,b≠rb i->(bG w5 (rb i) ((j+1)*5) u0 u1 u2 u3 u4).heap[b]?=w5.heap[b]?:=fun b hb=>eB w5 hb _ _ _ _ _ _;obtain ⟨r1,r2,r3,r4⟩:=jr w5 (rb i) ((j+1)*5) u0 u1 u2 u3 u4;have hri:=h.rl i hi;obtain ⟨l1,l2⟩:=hk (rb i) (by rw [hri];intro e;cases e) (by rw [hri];intro e;cases e)
 have hrow:w5.ownsRow w0.heap.size 25 5 (.slice (some ⟨rb i,0,none⟩) (ops.length+1) (ops.length+1)) (ops.length+1) (ys i):=eH (h.row i hi) fun b e=>by
  obtain rfl:rb i=b:=by simpa [Value.ownBlock] using e
  exact l2
 have hrow':=(xC hrow (j+1) u0 u1 u2 u3 u4).1;generalize bG w5 (rb i) ((j+1)*5) u0 u1 u2 u3 u4=W at *;have hy:(ys i).length=(ops.length+1)*5:=hrow.1;have old:∀ b,L b≠.no->L b≠.Tp i j->b≠rb i->L' b=L b/\W.heap[b]?=w.heap[b]?:=fun b h1 h2 h3=>⟨(hk b h1 h2).1,(hW b h3).trans (hk b h1 h2).2⟩;obtain ⟨k1,k2⟩:=old c (by rw [h.lc];intro e;cases e) (by rw [h.lc];intro e;cases e) (fun e=>by rw [<- e,h.lc] at hri;cases hri);refine ⟨k1.trans h.lc,fun b hb=>by rw [r1];exact hn b hb,(aC k2 0).trans h.c0,(aC k2 1).trans h.c1,(aC k2 2).trans h.c2,(aC k2 3).trans h.c3,(aC k2 4).trans h.c4,(World.frozen?_of_block (a:=⟨c,0,none⟩) k2).trans h.f0,(World.frozen?_of_block (a:=⟨c,4,none⟩) k2).trans h.f4,?_,fun b e=>?_,?_,?_,?_,?_,?_,?_⟩
 ·rw [jC];exact eH h.grow fun b e=>(old b (by rw [h.gl b e];intro e;cases e) (by rw [h.gl b e];intro e;cases e) (fun e'=>by have:=h.gl b e;rw [e',hri] at this;cases this)).2
 ·have hg:=h.gl b e;exact (hk b (by rw [hg];intro e;cases e) (by rw [hg];intro e;cases e)).1.trans hg
 ·intro k hk';have hk2:k<st.length:=by rw [jC] at hk';exact hk'
  exact h.el k hk2
 ·intro k hk';have hk2:k<st.length:=by rw [jC] at hk';exact hk'
  have hg:=h.rl k hk2;exact (hk _ (by rw [hg];intro e;cases e) (by rw [hg];intro e;cases e)).1.trans hg
 ·intro k hk';have hk2:k<st.length:=by rw [jC] at hk';exact hk'
  by_cases e:k=i
  ·subst e;rw [if_pos rfl];exact hrow'
  ·rw [if_neg e];refine eH (h.row k hk2) fun b eb=>?_;obtain rfl:rb k=b:=by simpa [Value.ownBlock] using eb
   have hg:=h.rl k hk2;exact (old _ (by rw [hg];intro e;cases e) (by rw [hg];intro e;cases e) (fun e'=>by rw [e',hri] at hg;simp only [vB.row.injEq] at hg;exact e hg.symm)).2
 ·intro k hk';have hk2:k<st.length:=by rw [jC] at hk';exact hk'
  rw [yL st i j t hk2];by_cases e:k=i
  ·subst e;simp only [if_true];rw [jk (by omega)];exact h.Xr k hk2
  ·rw [if_neg e,if_neg (fun x=>e x.symm)];exact h.Xr k hk2
 ·intro k hk';have hk2:k<st.length:=by rw [jC] at hk';exact hk'
  rw [yL st i j t hk2];by_cases e:i=k
  ·rw [if_pos e,List.length_set];exact h.len k hk2
  ·rw [if_neg e];exact h.len k hk2
 ·intro k hk' j' hj';have hk2:k<st.length:=by rw [jC] at hk';exact hk'
  rw [yL st i j t hk2]
  have hmv:(k≠i\/j'≠j)->∀ b,L b=.Tp k j'->L' b=.Tp k j'/\W.heap[b]?=w.heap[b]?:=fun hne b hb=>by
   have:=old b (by rw [hb];intro e;cases e) (by
    rw [hb];intro e;simp only [vB.Tp.injEq] at e;rcases hne with hne | hne
    ·exact hne e.1
    ·exact hne e.2) (fun e'=>by rw [e',hri] at hb;cases hb)
   exact ⟨this.1.trans hb,this.2⟩
  by_cases e:k=i
  ·subst e;simp only [if_true];have hl:=h.len k hk2;by_cases e2:j'=j
   ·subst e2;rw [mg (by omega),List.getD_eq_getElem?_getD,List.getElem?_set_self (by omega)];refine ha.move fun b hb=>⟨hb,hW b fun e'=>?_⟩;rw [e',l1,hri] at hb;cases hb
   ·rw [jk (by omega),List.getD_eq_getElem?_getD,List.getElem?_set_ne (by omega),<- List.getD_eq_getElem?_getD];exact (h.acc k hk2 j' hj').move (hmv (.inr e2))
  ·simp only [if_neg e,if_neg (fun x:i=k=>e x.symm)];exact (h.acc k hk2 j' hj').move (hmv (.inl e))
theorem jT.aiC {w0:World} {c:Nat} {NA:Option Addr} {nc:Nat} {bv ev:Value} {ops:List ByteArray} {L:Nat->vB} {gv:Value} {xs:List Value} {rb:Nat->Nat} {ys:Nat->List Value} {st:List (T×List T)} {w:World} (h:jT w0 c NA nc bv ev ops L gv xs rb ys st w) {w5:World} (hb:Below w.heap.size w w5) {i j:Nat} (hi:i<st.length) (hj:j<ops.length) (hne:ops[j]≠fD) {u0 u1 u2 u3 u4:Value} {t:T} (ha:At w0 13 (.agg #[u0,u1,u2,u3,u4]) t) (hok:aj t≠0->bM t) :
  jT w0 c NA nc bv ev ops L gv xs rb (fun k=>if k=i then nE (ys i) (j+1) u0 u1 u2 u3 u4 else ys k) (q9 st i j t) (bG w5 (rb i) ((j+1)*5) u0 u1 u2 u3 u4) :=
 h.put hi hj (fun b h1 _=>⟨rfl,hb.block b (h.low b h1).2⟩) (fun b h1=>⟨(h.low b h1).1,Nat.lt_of_lt_of_le (h.low b h1).2 hb.size⟩) (.inl ⟨hne,ha,hok⟩)
theorem jT.abB {w0:World} {c:Nat} {NA:Option Addr} {nc:Nat} {bv ev:Value} {ops:List ByteArray} {L:Nat->vB} {gv:Value} {xs:List Value} {rb:Nat->Nat} {ys:Nat->List Value} {st:List (T×List T)} {w:World} (h:jT w0 c NA nc bv ev ops L gv xs rb ys st w) {w5:World} {i j:Nat} (hi:i<st.length) (hj:j<ops.length) (he:ops[j]=fD) {s v:T} {A A':Option Addr} {B B':Nat} {zs cs:List Value} (hA:∀ b,(Value.slice A (nL s) B).ownBlock=some b->L b=.Tp i j) (hel:∀ k,k<nL s->At w0 13 (fv zs k) (elt s k)/\bM (elt s k)) (hz:zs.length=nL s*5) (hG:w.grownBy w5 (Value.slice A (nL s) B).ownBlock) (hO:w5.ownsRow w0.heap.size 25 5 (.slice A' (nL s+1) B') (nL s+1) (zs++cs)) (hat:(Value.slice A' (nL s+1) B').ownBlock=(Value.slice A (nL s) B).ownBlock\/∃ b,(Value.slice A' (nL s+1) B').ownBlock=some b/\w.heap.size<=b) {c0 c1 c2 c3 c4:Value} (hcs:cs=[c0,c1,c2,c3,c4]) (hv:At w0 13 (.agg #[c0,c1,c2,c3,c4]) v) (hok:bM v) (hn:nL s+1<=1000000) :
  ∃ L',jT w0 c NA nc bv ev ops L' gv xs rb (fun k=>if k=i then nE (ys i) (j+1) (.int .i64 5) (.int .i64 0) (.string ⟨#[]⟩) (.slice A' (nL s+1) B') (.slice none 0 0) else ys k) (q9 st i j (aO 5 0 ByteArray.empty (lH s++[v]) [])) (bG w5 (rb i) ((j+1)*5) (.int .i64 5) (.int .i64 0) (.string ⟨#[]⟩) (.slice A' (nL s+1) B') (.slice none 0 0))/\∀ b,b<w.heap.size->L b=.no->L' b=.no:=by
 subst hcs;have hlt:=hO.lt;refine ⟨fun b=>if (Value.slice A' (nL s+1) B').ownBlock=some b then .Tp i j else L b,h.put hi hj (fun b h1 h2=>⟨if_neg fun e=>?_,hG.block b (h.low b h1).2 fun e=>h2 (hA b e.symm)⟩) (fun b hb=>?_) (.inr ⟨he,A',B',zs++[c0,c1,c2,c3,c4],?_,.inr rfl,?_,?_,fun b hb=>?_,fun k hk=>?_⟩),fun b h1 h2=>?_⟩
 ·rcases hat with e' | ⟨b',e',e2⟩
  ·exact h2 (hA b (e'.symm.trans e))
  ·rw [e',Option.some.injEq] at e;have:=(h.low b h1).2;omega
 ·by_cases e:(Value.slice A' (nL s+1) B').ownBlock=some b
  ·exact hlt b e
  ·simp only [if_neg e] at hb;exact ⟨(h.low b hb).1,Nat.lt_of_lt_of_le (h.low b hb).2 hG.size⟩
 ·rw [bg,eP,gu,aN,List.length_append,List.length_cons,List.length_nil];rfl
 ·rw [aN,List.length_append,List.length_cons,List.length_nil];exact hO
 ·rw [aN,List.length_append,List.length_cons,List.length_nil];exact hn
 ·rw [aN,List.length_append,List.length_cons,List.length_nil] at hb;exact if_pos hb
 ·rw [aN,List.length_append,List.length_cons,List.length_nil] at hk;rw [iQ];by_cases e:k<nL s
  ·rw [pU hz e,List.getD_eq_getElem?_getD,List.getElem?_append_left (by exact e),<- List.getD_eq_getElem?_getD];exact hel k e
  ·obtain rfl:k=nL s:=by unfold nL at *;omega
   rw [uw hz,List.getD_eq_getElem?_getD,List.getElem?_append_right (by exact Nat.le_refl _)];unfold nL;simp only [Nat.sub_self,List.getElem?_cons_zero,Option.getD_some];exact ⟨hv,hok⟩
 ·simp only;rw [if_neg]
  ·exact h2
  ·intro e;rcases hat with e' | ⟨b',e',e2⟩
   ·have:=hA b (e'.symm.trans e);rw [h2] at this;cases this
   ·rw [e',Option.some.injEq] at e;omega
def jU (op:ByteArray):Prop:=op=Ir\/op=Cz\/op=CB\/op=oU\/op=tF\/op=fD
def CK (w0:World) (c:Nat) (NA:Option Addr) (nc:Nat) (bv ev:Value) (ops:List ByteArray) (L:Nat->vB) (gv:Value) (xs:List Value) (rb:Nat->Nat) (st:List (T×List T)) (i j:Nat) (r:Int⊕T) (w:World) (e:Ending) (w5:World):Prop :=
 Below w0.heap.size w w5/\(∀ b,b<w.heap.size->L b≠.Tp i j->w5.heap[b]?=w.heap[b]?) /\
 ((∃ x,r=.inl x/\x≠0/\e=.returned (.tuple #[.agg #[.int .i64 0,.int .i64 0,.string ⟨#[]⟩,.slice none 0 0,.slice none 0 0],.int .i64 x])) \/
  ∃ (t:T) (vk vn:Int) (vs:ByteArray) (VA:Option Addr) (vl VB:Nat) (VC:Option Addr) (vm VD:Nat),r=.inr t/\e=.returned (.tuple #[.agg #[.int .i64 vk,.int .i64 vn,.string vs,.slice VA vl VB,.slice VC vm VD],.int .i64 0])/\∃ L' ys',jT w0 c NA nc bv ev ops L' gv xs rb ys' (q9 st i j t) (bG w5 (rb i) ((j+1)*5) (.int .i64 vk) (.int .i64 vn) (.string vs) (.slice VA vl VB) (.slice VC vm VD))/\∀ b,b<w.heap.size->L b=.no->L' b=.no)
theorem jT.shape {w0:World} {c:Nat} {NA:Option Addr} {nc:Nat} {bv ev:Value} {ops:List ByteArray} {L:Nat->vB} {gv:Value} {xs:List Value} {rb:Nat->Nat} {ys:Nat->List Value} {st:List (T×List T)} {w:World} (h:jT w0 c NA nc bv ev ops L gv xs rb ys st w) {i j:Nat} (hi:i<st.length) (hj:j<ops.length):∃ s A B C D,s=st[i].2.getD j aM/\fv (ys i) (j+1)=.agg #[.int .i64 (aj s),.int .i64 (av s),.string (ay s),.slice A (nL s) B,.slice C (nK s) D]:=by
 rcases h.acc i hi j hj with ⟨_,h,_⟩ | ⟨_,A,B,zs,hv,hs,_⟩
 ·obtain ⟨g,La,Ka,Lc,Kc,_,hx,_,_,_⟩:=h.open;exact ⟨_,La,Lc,Ka,Kc,rfl,hx⟩
 ·refine ⟨_,A,B,none,0,rfl,hv.trans ?_⟩
  have:nK (st[i].2.getD j aM)=0:=by
   rcases hs with hs | hs
   ·rw [hs];rfl
   ·rw [hs];rfl
  rw [this]
theorem OV {Tb:World->Prop} (w0:World) (c:Nat) (NA:Option Addr) (nc:Nat) (bv ev:Value) (ops:List ByteArray) (L:Nat->vB) (gv:Value) (xs:List Value) (rb:Nat->Nat) (ys:Nat->List Value) (st:List (T×List T)) (w:World) (hI:jT w0 c NA nc bv ev ops L gv xs rb ys st w) (hb0:Below w0.heap.size w0 w) (i j:Nat) (hi:i<st.length) (hj:j<ops.length) (hop:jU ops[j]) (u:Value) (g:T->Int⊕T) (hu:dO Tb w0 u g) (doc:T) (x:Value) (hd:At w0 13 x doc) (hok:bM doc) (hT:∀ w',Below w.heap.size w w'->Tb w') (hn:ops[j]=fD->nL (st[i].2.getD j aM)+1<=1000000) :
  Calls Tryz.prog 360 #[.agg #[.string ops[j],u],fv (ys i) (j+1),x] w (CK w0 c NA nc bv ev ops L gv xs rb st i j (mX g ops[j] (st[i].2.getD j aM) doc) w):=by
 obtain ⟨ty,p,fid,rfl,hm,hcall,oQ⟩:=hu;have Xv:=fun wr x doc h1 h2 h3 h4=>oQ w0 wr x doc (Below.refl _ _) h1 h2 h3 h4;have hacc:=hI.acc i hi j hj;generalize st[i].2.getD j aM=s at hacc hn ⊢;rcases hacc with ⟨hne,ha,hka⟩ | ⟨he,A,B,zs,hv,hs,hrow,hl,hlab,hel⟩
 ·obtain ⟨g1,La,Ka,Lc,Kc,_,hx,_,_,_⟩:=ha.open;rw [hx] at ha ⊢
  have hpost:∀ e w5,OJ w0 (rR g ops[j] s doc) w e w5->CK w0 c NA nc bv ev ops L gv xs rb st i j (mX g ops[j] s doc) w e w5:=by
   rintro e w5 ⟨hb,hr⟩;refine ⟨hb.mono hb0.size,fun b h1 _=>hb.block b h1,?_⟩;unfold mX;rw [if_neg hne];rcases hr with hr | ⟨t,A2,B2,C2,D2,h1,h2,h3,h4⟩
   ·exact .inl hr
   ·exact .inr ⟨t,_,_,_,_,_,_,_,_,_,h1,h2,L,_,hI.aiC hb hi hj hne h3 h4,fun b _ h=>h⟩
  by_cases e:ops[j]=Ir
  ·exact (OL ops[j] e ty p fid hm hcall g w0 Xv _ doc La Ka Lc Kc x w hb0 ha hd hok hT).mono hpost
  ·refine (OP ops[j] ?_ ty p fid hm hcall g w0 Xv _ doc La Ka Lc Kc x w hb0 ha hka hd hok hT).mono hpost;rcases hop with h | h | h | h | h | h
   ·exact absurd h e
   ·exact .inl h
   ·exact .inr (.inl h)
   ·exact .inr (.inr (.inl h))
   ·exact .inr (.inr (.inr h))
   ·exact absurd h hne
 ·have hn:=hn he
  have hk0:nK s=0:=by
   rcases hs with hs | hs
   ·rw [hs];rfl
   ·rw [hs];rfl
  have hv2:fv (ys i) (j+1)=.agg #[.int .i64 (aj s),.int .i64 (av s),.string (ay s),.slice A (nL s) B,.slice none (nK s) 0]:=by rw [hv,hk0]
  rw [hv2];refine (Lu ops[j] he ty p fid hm hcall g w0 Xv _ doc A none B 0 x w hb0 w0.heap.size zs hrow hb0.size (by omega) hd hok hT).mono ?_;rintro e w5 (⟨hb,x',h1,h2,h3⟩ | ⟨t,A2,B2,C2,D2,A',B',h1,h2,h3,h4,h5,h6,h7⟩)
  ·refine ⟨hb.mono hb0.size,fun b h1 _=>hb.block b h1,.inl ⟨x',?_,h2,h3⟩⟩;unfold mX;rw [if_pos he,h1]
  ·have hfr:∀ b,b<w.heap.size->L b≠.Tp i j->w5.heap[b]?=w.heap[b]?:=fun b k1 k2=>h3.block b k1 fun e=>k2 (hlab b e.symm);have hlo:∀ b,(Value.slice A (nL s) B).ownBlock=some b->w0.heap.size<=b:=fun b e=>(hrow.lt b e).1;refine ⟨⟨h3.os,h3.tape,h3.output,h3.size,fun b hb=>h3.block b (Nat.lt_of_lt_of_le hb hb0.size) fun e=>?_⟩,hfr,.inr ⟨aO 5 0 ByteArray.empty (lH s++[t]) [],_,_,_,_,_,_,_,_,_,?_,h2,?_⟩⟩
   ·have:=hlo b e.symm;omega
   ·unfold mX;rw [if_pos he,h1]
   ·obtain ⟨L',hG,hL'⟩:=hI.abB (v:=t) hi hj he hlab hel hrow.1 h3 h4 h5 rfl h6 h7 hn;exact ⟨L',_,hG,hL'⟩
def iI (doc:T):List (ByteArray×(T->Int⊕T))->Nat->List T->Int⊕List T
 | [],_,a=>.inr a
 | e::es,k,a=>match mX e.2 e.1 (a.getD k aM) doc with
  | .inl x=>.inl x
  | .inr t=>iI doc es (k+1) (a.set k t)
theorem LC (doc:T):∀ (es:List (ByteArray×(T->Int⊕T))) (e:ByteArray×(T->Int⊕T)) (r:List (ByteArray×(T->Int⊕T))) (k:Nat) (a a':List T) (x:Int),iI doc es k a=.inr a'->mX e.2 e.1 (a'.getD (k+es.length) aM) doc=.inl x->iI doc (es++e::r) k a=.inl x
 | [],e,r,k,a,a',x,h,hx=>by
  simp only [iI,Sum.inr.injEq] at h;subst h;rw [List.nil_append,iI,show mX e.2 e.1 (a.getD k aM) doc=.inl x from hx]
 | e0::es,e,r,k,a,a',x,h,hx=>by
  rw [iI] at h;rw [List.cons_append,iI];cases h0:mX e0.2 e0.1 (a.getD k aM) doc with
  | inl y=>rw [h0] at h;cases h
  | inr t =>
   rw [h0] at h;exact LC doc es e r (k+1) (a.set k t) a' x h (by rw [show k+1+es.length=k+(e0::es).length by rw [List.length_cons];omega];exact hx)
theorem FJ (doc:T):∀ (es:List (ByteArray×(T->Int⊕T))) (e:ByteArray×(T->Int⊕T)) (k:Nat) (a a':List T) (t:T),iI doc es k a=.inr a'->mX e.2 e.1 (a'.getD (k+es.length) aM) doc=.inr t->iI doc (es++[e]) k a=.inr (a'.set (k+es.length) t)
 | [],e,k,a,a',t,h,hx=>by
  simp only [iI,Sum.inr.injEq] at h;subst h;rw [List.nil_append,iI,show mX e.2 e.1 (a.getD k aM) doc=.inr t from hx];rfl
 | e0::es,e,k,a,a',t,h,hx=>by
  rw [iI] at h;rw [List.cons_append,iI];cases h0:mX e0.2 e0.1 (a.getD k aM) doc with
  | inl y=>rw [h0] at h;cases h
  | inr t0 =>
   rw [h0] at h;have:=FJ doc es e (k+1) (a.set k t0) a' t h (by rw [show k+1+es.length=k+(e0::es).length by rw [List.length_cons];omega];exact hx);rw [show k+1+es.length=k+(e0::es).length by rw [List.length_cons];omega] at this;exact this
def gX (S:List (T×List T)) (i:Nat) (a:List T):List (T×List T):=S.modify i fun s=>(s.1,a)
theorem p8 (S:List (T×List T)) (i:Nat) (a:List T):(gX S i a).length=S.length:=List.length_modify _ _ _
theorem FK (S:List (T×List T)) (i:Nat) (a:List T) (h:i<S.length):((gX S i a)[i]'(by rw [p8];exact h)).2=a:=by
 unfold gX;rw [List.getElem_modify,if_pos rfl]
theorem Tv (S:List (T×List T)) (i:Nat) (a:List T) (k:Nat) (t:T):q9 (gX S i a) i k t=gX S i (a.set k t):=by
 unfold q9 gX;refine List.ext_getElem (by simp [List.length_modify]) fun n h1 h2=>?_;simp only [List.getElem_modify];by_cases e:i=n
 ·simp only [if_pos e]
 ·simp only [if_neg e]
theorem OW (S:List (T×List T)) (i:Nat) (h:i<S.length):gX S i S[i].2=S:=by
 unfold gX;refine List.ext_getElem (by simp [List.length_modify]) fun n h1 h2=>?_;rw [List.getElem_modify];by_cases e:i=n
 ·subst e;rw [if_pos rfl]
 ·rw [if_neg e]
theorem lQ (n:Nat) (st:List (T×List T)) (b:T):dS st b<(eX n st b).length:=by
 have:dS st b<=st.length:=List.findIdx_le_length;unfold eX;by_cases h:dS st b<st.length
 ·rw [if_pos h];exact h
 ·rw [if_neg h,List.length_append,List.length_cons,List.length_nil];omega
def p9 (gb:T->Int⊕T) (es:List (ByteArray×(T->Int⊕T))) (st:List (T×List T)) (doc:T):Int⊕List (T×List T):=match gb doc with
 | .inl x=>.inl x
 | .inr b=>match iI doc es 0 ((eX es.length st b)[dS st b]'(lQ _ _ _)).2 with
  | .inl x=>.inl x
  | .inr a=>.inr (gX (eX es.length st b) (dS st b) a)
def qM (Tb:World->Prop) (w:World) (v:Value) (es:List (ByteArray×(T->Int⊕T))):Prop :=
 ∃ A c,v=.slice A es.length c/\es.length<=100000/\∀ i,(h:i<es.length)->∃ b o u,A=some ⟨b,o,none⟩/\b<w.heap.size/\w.cell? ⟨b,o+i*2,none⟩=some (.string es[i].1)/\w.cell? ⟨b,o+i*2+1,none⟩=some u/\dO Tb w u es[i].2/\jU es[i].1
theorem qM.keep {Tb:World->Prop} {w w':World} {v:Value} {es:List (ByteArray×(T->Int⊕T))} (h:qM Tb w v es) (hb:Below w.heap.size w w'):qM Tb w' v es:=by
 obtain ⟨A,c,hv,hn,h⟩:=h;refine ⟨A,c,hv,hn,fun i hi=>?_⟩;obtain ⟨b,o,u,h0,hl,q1,q2,hu,ho⟩:=h i hi;exact ⟨b,o,u,h0,Nat.lt_of_lt_of_le hl hb.size,(hb.cell (p:=⟨b,_,none⟩) hl).trans q1,(hb.cell (p:=⟨b,_,none⟩) hl).trans q2,hu.keep hb,ho⟩
theorem lN.flat {w0:World} {g:T->Int⊕T} {doc:T} {w:World} {e:Ending} {w':World} (h:lN w0 g doc w e w'):Below w.heap.size w w'/\∃ (vk vn:Int) (vs:ByteArray) (VA:Option Addr) (vl VB:Nat) (VC:Option Addr) (vm VD:Nat) (er:Int),e=.returned (.tuple #[.agg #[.int .i64 vk,.int .i64 vn,.string vs,.slice VA vl VB,.slice VC vm VD],.int .i64 er])/\((g doc=.inl er/\er≠0)\/∃ t A B C D,g doc=.inr t/\er=0/\Value.agg #[.int .i64 vk,.int .i64 vn,.string vs,.slice VA vl VB,.slice VC vm VD]=.agg #[.int .i64 (aj t),.int .i64 (av t),.string (ay t),.slice A (nL t) B,.slice C (nK t) D]/\At w0 13 (.agg #[.int .i64 (aj t),.int .i64 (av t),.string (ay t),.slice A (nL t) B,.slice C (nK t) D]) t/\bM t):=by
 obtain ⟨hb,⟨x,h1,h2,rfl⟩ | ⟨t,A,B,C,D,h1,rfl,h3,h4⟩⟩:=h
 ·exact ⟨hb,_,_,_,_,_,_,_,_,_,x,rfl,.inl ⟨h1,h2⟩⟩
 ·exact ⟨hb,_,_,_,_,_,_,_,_,_,0,rfl,.inr ⟨t,A,B,C,D,h1,rfl,rfl,h3,h4⟩⟩
theorem CK.flat {w0:World} {c:Nat} {NA:Option Addr} {nc:Nat} {bv ev:Value} {ops:List ByteArray} {L:Nat->vB} {gv:Value} {xs:List Value} {rb:Nat->Nat} {st:List (T×List T)} {i j:Nat} {r:Int⊕T} {w:World} {e:Ending} {w5:World} (h:CK w0 c NA nc bv ev ops L gv xs rb st i j r w e w5):Below w0.heap.size w w5/\(∀ b,b<w.heap.size->L b≠.Tp i j->w5.heap[b]?=w.heap[b]?)/\∃ (vk vn:Int) (vs:ByteArray) (VA:Option Addr) (vl VB:Nat) (VC:Option Addr) (vm VD:Nat) (er:Int),e=.returned (.tuple #[.agg #[.int .i64 vk,.int .i64 vn,.string vs,.slice VA vl VB,.slice VC vm VD],.int .i64 er])/\((r=.inl er/\er≠0)\/∃ t,r=.inr t/\er=0/\∃ L' ys',jT w0 c NA nc bv ev ops L' gv xs rb ys' (q9 st i j t) (bG w5 (rb i) ((j+1)*5) (.int .i64 vk) (.int .i64 vn) (.string vs) (.slice VA vl VB) (.slice VC vm VD))/\∀ b,b<w.heap.size->L b=.no->L' b=.no):=by
 obtain ⟨h1,h2,⟨x,h3,h4,rfl⟩ | ⟨t,_,_,_,_,_,_,_,_,_,h3,rfl,h5⟩⟩:=h
 ·exact ⟨h1,h2,_,_,_,_,_,_,_,_,_,x,rfl,.inl ⟨h3,h4⟩⟩
 ·exact ⟨h1,h2,_,_,_,_,_,_,_,_,_,0,rfl,.inr ⟨t,h3,rfl,h5⟩⟩
theorem jT.cells5 {w0:World} {c:Nat} {NA:Option Addr} {nc:Nat} {bv ev:Value} {ops:List ByteArray} {L:Nat->vB} {gv:Value} {xs:List Value} {rb:Nat->Nat} {ys:Nat->List Value} {st:List (T×List T)} {w:World} (h:jT w0 c NA nc bv ev ops L gv xs rb ys st w) {i j:Nat} (hi:i<st.length) (hj:j<ops.length) {u0 u1 u2 u3 u4:Value} (hf:fv (ys i) (j+1)=.agg #[u0,u1,u2,u3,u4]) {w6:World} (hb:w6.heap[rb i]?=w.heap[rb i]?) :
  (w6.cell? ⟨rb i,5+j*5,none⟩=some u0/\w6.cell? ⟨rb i,5+j*5+1,none⟩=some u1/\w6.cell? ⟨rb i,5+j*5+2,none⟩=some u2/\w6.cell? ⟨rb i,5+j*5+3,none⟩=some u3/\w6.cell? ⟨rb i,5+j*5+4,none⟩=some u4)/\∀ o,w6.frozen? ⟨rb i,o,none⟩=false:=by
 have hr:=h.row i hi;have hy:(ys i).length=(ops.length+1)*5:=hr.1;unfold fv at hf;simp only [Value.agg.injEq,Array.mk.injEq,List.cons.injEq,and_true] at hf
 have hc:∀ r,r<5->w6.cell? ⟨rb i,5+j*5+r,none⟩=some (cx (ys i) ((j+1)*5+r)):=fun r hr'=>by
  rw [aC hb,show 5+j*5+r=(j+1)*5+r by omega];exact aX hr (dR (by omega))
 refine ⟨⟨?_,?_,?_,?_,?_⟩,fun o=>(World.frozen?_of_block (a:=⟨rb i,o,none⟩) hb).trans (hr.frozenAt o)⟩
 ·rw [<- hf.1];exact hc 0 (by omega)
 ·rw [<- hf.2.1];exact hc 1 (by omega)
 ·rw [<- hf.2.2.1];exact hc 2 (by omega)
 ·rw [<- hf.2.2.2.1];exact hc 3 (by omega)
 ·rw [<- hf.2.2.2.2];exact hc 4 (by omega)
theorem LD {lo:Nat} {w W:World} (h:Below lo w W) {g:Nat} (hg:lo<=g) (o:Nat) (u0 u1 u2 u3 u4:Value):Below lo w (bG W g o u0 u1 u2 u3 u4):=by
 obtain ⟨r1,r2,r3,r4⟩:=jr W g o u0 u1 u2 u3 u4;exact ⟨r2.trans h.os,r3.trans h.tape,r4.trans h.output,by rw [r1];exact h.size,fun b hb=>(eB W (by omega) o u0 u1 u2 u3 u4).trans (h.block b hb)⟩
theorem FL (doc:T):∀ (es:List (ByteArray×(T->Int⊕T))) (k:Nat) (a a':List T),iI doc es k a=.inr a'->∀ j,k+es.length<=j->a'.getD j aM=a.getD j aM
 | [],k,a,a',h,j,hj=>by
  simp only [iI,Sum.inr.injEq] at h;rw [h]
 | e0::es,k,a,a',h,j,hj=>by
  rw [iI] at h;rw [List.length_cons] at hj;cases h0:mX e0.2 e0.1 (a.getD k aM) doc with
  | inl y=>rw [h0] at h;cases h
  | inr t =>
   rw [h0] at h;rw [FL doc es (k+1) (a.set k t) a' h j (by omega),List.getD_eq_getElem?_getD,List.getElem?_set_ne (by omega),<- List.getD_eq_getElem?_getD]
theorem Xw {n N:Nat} {P:Nat->Prop} {st:List (T×List T)} (b:T) (h:∀ i,(h:i<st.length)->∀ j,P j->nL (st[i].2.getD j aM)<=N) (j:Nat) (hP:P j):nL (((eX n st b)[dS st b]'(lQ _ _ _)).2.getD j aM)<=N:=by
 have hle:dS st b<=st.length:=List.findIdx_le_length;by_cases e:dS st b<st.length
 ·have e2:eX n st b=st:=by unfold eX;rw [if_pos e]
  simp only [e2];exact h _ e j hP
 ·have e2:eX n st b=st++[(b,List.replicate n aM)]:=by unfold eX;rw [if_neg e]
  simp only [e2];rw [List.getElem_append_right (by omega)];simp only [show dS st b - st.length=0 by omega,List.getElem_cons_zero]
  have:(List.replicate n aM).getD j aM=aM:=by
   rw [List.getD_eq_getElem?_getD,List.getElem?_replicate];by_cases hj:j<n
   ·rw [if_pos hj];rfl
   ·rw [if_neg hj];rfl
  rw [this];exact Nat.zero_le _
theorem ada {w0:World} {c:Nat} {NA:Option Addr} {nc:Nat} {bv ev:Value} {ops:List ByteArray} {L:Nat->vB} {gv:Value} {xs:List Value} {rb:Nat->Nat} {ys:Nat->List Value} {st:List (T×List T)} {W:World} (hG:jT w0 c NA nc bv ev ops L gv xs rb ys st W) {i j:Nat} (hi:i<st.length) (hj:j<ops.length) {w:World} {d:Nat} (hbW:Below w0.heap.size w W) {q0 q1 q2 q3 q4:Value} (Lf:aJ d q0 q1 q2 q3 q4 W) (ZT:L d=.no) {r:Int⊕T} {e:Ending} {w6:World} (h:CK w0 c NA nc bv ev ops L gv xs rb st i j r W e w6) {s0 s1 s2 s3 s4:Value} (hf:fv (ys i) (j+1)=.agg #[s0,s1,s2,s3,s4]) :
  ∃ (vk vn:Int) (vs:ByteArray) (VA:Option Addr) (vl VB:Nat) (VC:Option Addr) (vm VD:Nat) (er:Int),e=.returned (.tuple #[.agg #[.int .i64 vk,.int .i64 vn,.string vs,.slice VA vl VB,.slice VC vm VD],.int .i64 er])/\(w6.cell? ⟨rb i,5+j*5,none⟩=some s0/\w6.cell? ⟨rb i,5+j*5+1,none⟩=some s1/\w6.cell? ⟨rb i,5+j*5+2,none⟩=some s2/\w6.cell? ⟨rb i,5+j*5+3,none⟩=some s3/\w6.cell? ⟨rb i,5+j*5+4,none⟩=some s4)/\(∀ o,w6.frozen? ⟨rb i,o,none⟩=false)/\Hid (Below w0.heap.size w (bG w6 (rb i) (5+j*5) (.int .i64 vk) (.int .i64 vn) (.string vs) (.slice VA vl VB) (.slice VC vm VD))/\aJ d q0 q1 q2 q3 q4 (bG w6 (rb i) (5+j*5) (.int .i64 vk) (.int .i64 vn) (.string vs) (.slice VA vl VB) (.slice VC vm VD)))/\Hid ((r=.inl er/\er≠0)\/∃ t,r=.inr t/\er=0/\∃ L' ys',jT w0 c NA nc bv ev ops L' gv xs rb ys' (q9 st i j t) (bG w6 (rb i) (5+j*5) (.int .i64 vk) (.int .i64 vn) (.string vs) (.slice VA vl VB) (.slice VC vm VD))/\L' d=.no):=by
 obtain ⟨hb,hfr,vk,vn,vs,VA,vl,VB,VC,vm,VD,er,rfl,hc⟩:=h.flat;have hr:=h.2.1;have hrl:=hG.rl i hi;have hlow:=hG.low (rb i) (by rw [hrl];intro e;cases e);have hblk:w6.heap[rb i]?=W.heap[rb i]?:=hfr _ hlow.2 (by rw [hrl];intro e;cases e);obtain ⟨k1,k2⟩:=hG.cells5 hi hj hf hblk;refine ⟨vk,vn,vs,VA,vl,VB,VC,vm,VD,er,rfl,k1,k2,⟨LD (hbW.trans hb) hlow.1 _ _ _ _ _ _,?_⟩,?_⟩
 ·refine Lf.move ?_ ((eB w6 (fun e=>?_) _ _ _ _ _ _).trans (hfr d Lf.lt (by rw [ZT];intro e;cases e)))
  ·rw [(jr w6 (rb i) (5+j*5) _ _ _ _ _).1];exact hb.size
  ·rw [e,hrl] at ZT;cases ZT
 ·rcases hc with hc | ⟨t,h1,h2,L',ys',h3,h4⟩
  ·exact .inl hc
  ·refine .inr ⟨t,h1,h2,L',ys',?_,h4 d Lf.lt ZT⟩;rw [show 5+j*5=(j+1)*5 by omega];exact h3
end Go.Proofs.YtknakfpciccoaaaGreatDoor
