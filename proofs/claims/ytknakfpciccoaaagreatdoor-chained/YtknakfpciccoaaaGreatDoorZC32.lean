import Derived.Test.YtknakfpciccoaaaGreatDoorZC31
/- Which group: the walk of what is looked for. -/
set_option maxHeartbeats 8000000
set_option maxRecDepth 100000
namespace Go.Proofs.YtknakfpciccoaaaGreatDoor
open Go.RowKit
theorem FI (f gx:Nat) (v:Value) (o:T) (p:Nat) (x:T) (A C:Option Addr) (B D:Nat) (w:World) (h:At w f v o) (hlt:0<nL o) (hf:f<=16) (ho:bM (elt o 0)) (hx:At w gx (.agg #[.int .i64 (aj x),.int .i64 (av x),.string (ay x),.slice A (nL x) B,.slice C (nK x) D]) x) (hox:bM x)
  (hb:aJ p (.int .i64 (aj x)) (.int .i64 (av x)) (.string (ay x)) (.slice A (nL x) B) (.slice C (nK x) D) w) :
  Calls Tryz.prog 361 #[v,.pointer (some ⟨p,0,none⟩)] w fun e w'=>e=.returned (.bool (yc (elt o 0) x))/\Below w.heap.size w w':=by
 have HA:=ak h;obtain ⟨g,La,Ka,Lc,Kc,rfl,rfl,hff,hl,hkk⟩:=h.open;have hnl:=hff.l1;have HB1:=ak (aY w (vC o La Lc Ka Kc));have HD:=ak HB1.out.drew;have HX:=ak (hb.stay HD.out);have HY:=ak ((aR w (.int .i64 (aj o)) (.int .i64 (av o)) (.string (ay o)) (.slice La (nL o) Lc) (.slice Ka (nK o) Kc)).stay (au _));obtain ⟨eb,eo,A2,B2,C2,D2,rfl,yK,e0,e1,e2,e3,e4,Ha⟩:=hl.out.shape HD.out 0 hlt;rw [Nat.zero_mul,Nat.add_zero] at e0 e1 e2 e3 e4;have HE:Hid (∀ (w':World),Below w.heap.size w w'->Calls Tryz.prog 158 #[.agg #[.int .i64 (aj (elt o 0)),.int .i64 (av (elt o 0)),.string (ay (elt o 0)),.slice A2 (nL (elt o 0)) B2,.slice C2 (nK (elt o 0)) D2],.agg #[.int .i64 (aj x),.int .i64 (av x),.string (ay x),.slice A (nL x) B,.slice C (nK x) D]] w' fun e w2=>e=.returned (.bool (yc (elt o 0) x))/\Below w'.heap.size w' w2):=fun w' hb'=>wT (Ha.out.keep hb') (hx.keep hb') (by omega) ho hox;generalize yc (elt o 0) x=cc at HE ⊢
 have HEw:Hid (∀ w':World,Below (w.alloc (vC o (some ⟨eb,eo,none⟩) Lc Ka Kc)).drew.heap.size (w.alloc (vC o (some ⟨eb,eo,none⟩) Lc Ka Kc)).drew w'->(fun wx=>wx.cell? ⟨p,0,none⟩=some (.int .i64 (aj x))/\wx.cell? ⟨p,1,none⟩=some (.int .i64 (av x))/\wx.cell? ⟨p,2,none⟩=some (.string (ay x))/\wx.cell? ⟨p,3,none⟩=some (.slice A (nL x) B)/\wx.cell? ⟨p,4,none⟩=some (.slice C (nK x) D)/\wx.cell? ⟨w.heap.size,3,none⟩=some (.slice (some ⟨eb,eo,none⟩) (nL o) Lc)/\wx.cell? ⟨eb,eo,none⟩=some (.int .i64 (aj (elt o 0)))/\wx.cell? ⟨eb,eo+1,none⟩=some (.int .i64 (av (elt o 0)))/\wx.cell? ⟨eb,eo+2,none⟩=some (.string (ay (elt o 0)))/\wx.cell? ⟨eb,eo+3,none⟩=some (.slice A2 (nL (elt o 0)) B2)/\wx.cell? ⟨eb,eo+4,none⟩=some (.slice C2 (nK (elt o 0)) D2)) w'):=fun w' hb'=>by
  have a:=HX.out.stay hb';have b:=HY.out.stay hb';have hl':eb<(w.alloc (vC o (some ⟨eb,eo,none⟩) Lc Ka Kc)).drew.heap.size:=Nat.lt_of_lt_of_le yK HD.out.size;exact ⟨a.q0,a.q1,a.q2,a.q3,a.q4,b.q3,(hb'.cell (p:=⟨eb,_,none⟩) hl').trans e0,(hb'.cell (p:=⟨eb,_,none⟩) hl').trans e1,(hb'.cell (p:=⟨eb,_,none⟩) hl').trans e2,(hb'.cell (p:=⟨eb,_,none⟩) hl').trans e3,(hb'.cell (p:=⟨eb,_,none⟩) hl').trans e4⟩
 have qy:=ak (HEw.out _ (Below.refl _ _));have i0:(0:Int)<(nL o:Int):=by omega
 clear h hff hl hkk hf ho hx hox hb HA e0 e1 e2 e3 e4 Ha;go_in;go_wp2_with fail;go_region_held3 (fun wx=>wx.cell? ⟨p,0,none⟩=some (.int .i64 (aj x))/\wx.cell? ⟨p,1,none⟩=some (.int .i64 (av x))/\wx.cell? ⟨p,2,none⟩=some (.string (ay x))/\wx.cell? ⟨p,3,none⟩=some (.slice A (nL x) B)/\wx.cell? ⟨p,4,none⟩=some (.slice C (nK x) D)/\wx.cell? ⟨w.heap.size,3,none⟩=some (.slice (some ⟨eb,eo,none⟩) (nL o) Lc)/\wx.cell? ⟨eb,eo,none⟩=some (.int .i64 (aj (elt o 0)))/\wx.cell? ⟨eb,eo+1,none⟩=some (.int .i64 (av (elt o 0)))/\wx.cell? ⟨eb,eo+2,none⟩=some (.string (ay (elt o 0)))/\wx.cell? ⟨eb,eo+3,none⟩=some (.slice A2 (nL (elt o 0)) B2)/\wx.cell? ⟨eb,eo+4,none⟩=some (.slice C2 (nK (elt o 0)) D2)) (first | exact hS4 | exact qy.out) ((go_at_call 158;refine (HE.out _ HD.out).mono ?_;rintro e4 w4 ⟨rfl,b4⟩;have hS4:=HEw.out _ b4));have fI:=ak (HD.out.trans (b4.mono HD.out.size));clear b4 hS4;go_wp2_with fail;go_ret;exact ⟨rfl,fI.out⟩
inductive vB where
 | no
 | box
 | grp
 | row (i:Nat)
 | Tp (i j:Nat)
def xH (w0:World) (L:Nat->vB) (w:World) (i j:Nat) (op:ByteArray) (v:Value) (a:T):Prop :=
 (op≠fD/\At w0 13 v a/\(aj a≠0->bM a)) \/
 (op=fD/\∃ A B zs,v=.agg #[.int .i64 (aj a),.int .i64 (av a),.string (ay a),.slice A (nL a) B,.slice none 0 0]/\(a=aM\/a=aO 5 0 ByteArray.empty (lH a) [])/\w.ownsRow w0.heap.size 25 5 (.slice A (nL a) B) (nL a) zs/\nL a<=1000000/\(∀ b,(Value.slice A (nL a) B).ownBlock=some b->L b=.Tp i j)/\∀ k,k<nL a->At w0 13 (fv zs k) (elt a k)/\bM (elt a k))
theorem xH.move {w0:World} {L L':Nat->vB} {w w':World} {i j:Nat} {op:ByteArray} {v:Value} {a:T} (h:xH w0 L w i j op v a) (hb:∀ b,L b=.Tp i j->L' b=.Tp i j/\w'.heap[b]?=w.heap[b]?):xH w0 L' w' i j op v a:=by
 rcases h with h | ⟨h1,A,B,zs,h2,h3,h4,h5,h6,h7⟩
 ·exact .inl h
 ·exact .inr ⟨h1,A,B,zs,h2,h3,eH h4 fun b hb'=>(hb b (h6 b hb')).2,h5,fun b hb'=>(hb b (h6 b hb')).1,h7⟩
theorem xH.at {w0:World} {L:Nat->vB} {w:World} {i j:Nat} {op:ByteArray} {v:Value} {a:T} (h:xH w0 L w i j op v a) (hb:Below w0.heap.size w0 w):At w 14 v a:=by
 rcases h with ⟨_,h,_⟩ | ⟨_,A,B,zs,rfl,h3,h4,h5,_,h7⟩
 ·exact (h.keep hb).up (by omega)
 ·have hk:nK a=0:=by
   rcases h3 with h3 | h3
   ·rw [h3];rfl
   ·rw [h3];rfl
  have hz:zs.length=nL a*5:=h4.1
  have hfit:-9223372036854775808<=aj a/\aj a<=9223372036854775807/\av a=0/\ay a=ByteArray.empty:=by
   rcases h3 with h3 | h3
   ·rw [h3];exact ⟨by show -9223372036854775808<=(0:Int);omega,by show (0:Int)<=_;omega,rfl,rfl⟩
   ·rw [h3];exact ⟨by show -9223372036854775808<=(5:Int);omega,by show (5:Int)<=_;omega,rfl,rfl⟩
  refine ⟨A,none,B,0,by rw [hk],⟨hfit.1,hfit.2.1,by rw [hfit.2.2.1];omega,by rw [hfit.2.2.1];omega,by rw [hfit.2.2.2];show (0:Nat)<=_;omega,by omega,by omega⟩,fun k hk'=>?_,fun k hk'=>by omega⟩;rcases h4.2 with ⟨_,h0⟩ | ⟨g,cap,cur,h',hb0,hg,rest⟩
  ·omega
  ·simp only [Value.slice.injEq,true_and] at h';obtain ⟨rfl,rfl⟩:=h';have hc:∀ r,r<5->w.cell? ⟨g,k*5+r,none⟩=some (cx zs (k*5+r)):=fun r hr=>aX h4 (dR (by omega));refine ⟨g,0,cx zs (k*5),cx zs (k*5+1),cx zs (k*5+2),cx zs (k*5+3),cx zs (k*5+4),rfl,(Array.getElem?_eq_some_iff.1 hg).1,(by rw [Nat.zero_add];exact hc 0 (by omega)),(by rw [Nat.zero_add];exact hc 1 (by omega)),(by rw [Nat.zero_add];exact hc 2 (by omega)),(by rw [Nat.zero_add];exact hc 3 (by omega)),(by rw [Nat.zero_add];exact hc 4 (by omega)),?_⟩;exact (h7 k hk').1.keep hb
structure jT (w0:World) (c:Nat) (NA:Option Addr) (nc:Nat) (bv ev:Value) (ops:List ByteArray) (L:Nat->vB) (gv:Value) (xs:List Value) (rb:Nat->Nat) (ys:Nat->List Value) (st:List (T×List T)) (w:World):Prop where
 lc:L c=.box
 low:∀ b,L b≠.no->w0.heap.size<=b/\b<w.heap.size
 c0:w.cell? ⟨c,0,none⟩=some (.slice none 0 0)
 c1:w.cell? ⟨c,1,none⟩=some (.slice NA (ops.length+1) nc)
 c2:w.cell? ⟨c,2,none⟩=some bv
 c3:w.cell? ⟨c,3,none⟩=some ev
 c4:w.cell? ⟨c,4,none⟩=some gv
 f0:w.frozen? ⟨c,0,none⟩=false
 f4:w.frozen? ⟨c,4,none⟩=false
 grow:w.ownsRow w0.heap.size 25 5 gv st.length xs
 gl:∀ b,gv.ownBlock=some b->L b=.grp
 el:∀ i,i<st.length->fv xs i=.agg #[.int .i64 6,.int .i64 0,.string ⟨#[]⟩,.slice (some ⟨rb i,0,none⟩) (ops.length+1) (ops.length+1),.slice NA (ops.length+1) nc]
 rl:∀ i,i<st.length->L (rb i)=.row i
 row:∀ i,i<st.length->w.ownsRow w0.heap.size 25 5 (.slice (some ⟨rb i,0,none⟩) (ops.length+1) (ops.length+1)) (ops.length+1) (ys i)
 Xr:∀ i,(h:i<st.length)->At w0 13 (fv (ys i) 0) st[i].1/\bM st[i].1
 len:∀ i,(h:i<st.length)->st[i].2.length=ops.length
 acc:∀ i,(h:i<st.length)->∀ j,(hj:j<ops.length)->xH w0 L w i j ops[j] (fv (ys i) (j+1)) (st[i].2.getD j aM)
theorem jT.move {w0:World} {c:Nat} {NA:Option Addr} {nc:Nat} {bv ev:Value} {ops:List ByteArray} {L L':Nat->vB} {gv:Value} {xs:List Value} {rb:Nat->Nat} {ys:Nat->List Value} {st:List (T×List T)} {w w':World} (h:jT w0 c NA nc bv ev ops L gv xs rb ys st w) (hl:∀ b,L b≠.no->L' b=L b/\w'.heap[b]?=w.heap[b]?) (hn:∀ b,L' b≠.no->w0.heap.size<=b/\b<w'.heap.size):jT w0 c NA nc bv ev ops L' gv xs rb ys st w':=by
 obtain ⟨k1,k2⟩:=hl c (by rw [h.lc];intro e;cases e);refine ⟨k1.trans h.lc,hn,(aC k2 0).trans h.c0,(aC k2 1).trans h.c1,(aC k2 2).trans h.c2,(aC k2 3).trans h.c3,(aC k2 4).trans h.c4,(World.frozen?_of_block (a:=⟨c,0,none⟩) k2).trans h.f0,(World.frozen?_of_block (a:=⟨c,4,none⟩) k2).trans h.f4,eH h.grow fun b e=>(hl b (by rw [h.gl b e];intro e;cases e)).2,fun b e=>(hl b (by rw [h.gl b e];intro e;cases e)).1.trans (h.gl b e),h.el,fun i hi=>(hl _ (by rw [h.rl i hi];intro e;cases e)).1.trans (h.rl i hi),fun i hi=>eH (h.row i hi) fun b e=>?_,h.Xr,h.len,fun i hi j hj=>(h.acc i hi j hj).move fun b e=>?_⟩
 ·obtain rfl:rb i=b:=by simpa [Value.ownBlock] using e
  exact (hl _ (by rw [h.rl i hi];intro e;cases e)).2
 ·have:=hl b (by rw [e];intro e;cases e);exact ⟨this.1.trans e,this.2⟩
theorem jT.keep {w0:World} {c:Nat} {NA:Option Addr} {nc:Nat} {bv ev:Value} {ops:List ByteArray} {L:Nat->vB} {gv:Value} {xs:List Value} {rb:Nat->Nat} {ys:Nat->List Value} {st:List (T×List T)} {w w':World} (h:jT w0 c NA nc bv ev ops L gv xs rb ys st w) (hb:Below w.heap.size w w'):jT w0 c NA nc bv ev ops L gv xs rb ys st w' :=
 h.move (fun b hl=>⟨rfl,hb.block b (h.low b hl).2⟩) (fun b hl=>⟨(h.low b hl).1,Nat.lt_of_lt_of_le (h.low b hl).2 hb.size⟩)
def fZ (ks:List ByteArray) (s:T×List T):T:=aO 6 0 ByteArray.empty (s.1::s.2) ks
theorem jT.grp {w0:World} {c:Nat} {NA:Option Addr} {nc:Nat} {bv ev:Value} {ops:List ByteArray} {L:Nat->vB} {gv:Value} {xs:List Value} {rb:Nat->Nat} {ys:Nat->List Value} {st:List (T×List T)} {w:World} (h:jT w0 c NA nc bv ev ops L gv xs rb ys st w) (hb:Below w0.heap.size w0 w) {ks:List ByteArray} (hk:bI w0 (.slice NA (ops.length+1) nc) ks) (ho:ops.length<=100000) {i:Nat} (hi:i<st.length):At w 15 (fv xs i) (fZ ks st[i]):=by
 obtain ⟨C,D,e1,hkn,hks⟩:=hk;simp only [Value.slice.injEq] at e1;obtain ⟨rfl,e2,rfl⟩:=e1;have hlen:=h.len i hi;rw [h.el i hi];have hr:=h.row i hi;have hy:(ys i).length=(ops.length+1)*5:=hr.1;refine ⟨some ⟨rb i,0,none⟩,NA,ops.length+1,nc,?_,?_,fun j hj=>?_,fun j hj=>?_⟩
 ·unfold fZ;rw [bg,eP,gu,aN,eY,List.length_cons,hlen,<- e2];rfl
 ·unfold fZ;exact ⟨by rw [bg];omega,by rw [bg];omega,by rw [eP];omega,by rw [eP];omega,by rw [gu];show (0:Nat)<=_;omega,by rw [aN,List.length_cons,hlen];omega,by rw [eY];exact hkn⟩
 ·unfold fZ at hj;rw [aN,List.length_cons,hlen] at hj;have hc:∀ r,r<5->w.cell? ⟨rb i,j*5+r,none⟩=some (cx (ys i) (j*5+r)):=fun r hr'=>aX hr (dR (by omega));refine ⟨rb i,0,cx (ys i) (j*5),cx (ys i) (j*5+1),cx (ys i) (j*5+2),cx (ys i) (j*5+3),cx (ys i) (j*5+4),rfl,(hr.lt _ rfl).2,(by rw [Nat.zero_add];exact hc 0 (by omega)),(by rw [Nat.zero_add];exact hc 1 (by omega)),(by rw [Nat.zero_add];exact hc 2 (by omega)),(by rw [Nat.zero_add];exact hc 3 (by omega)),(by rw [Nat.zero_add];exact hc 4 (by omega)),?_⟩;show At w 14 (fv (ys i) j) (elt (fZ ks st[i]) j);cases j with
  | zero=>exact ((h.Xr i hi).1.keep hb).up (by omega)
  | succ j =>
   have e3:elt (fZ ks st[i]) (j+1)=st[i].2.getD j aM:=by
    unfold fZ;rw [iQ,List.getD_cons_succ,List.getD_eq_getElem?_getD,List.getD_eq_getElem?_getD,List.getElem?_eq_getElem (by omega)];rfl
   rw [e3];exact (h.acc i hi j (by omega)).at hb
 ·unfold fZ at hj;rw [eY] at hj;obtain ⟨b,o,h0,hbl,hsz,hc⟩:=hks j hj;unfold fZ;refine ⟨b,o,h0,Nat.lt_of_lt_of_le hbl hb.size,?_,?_⟩
  ·rw [rY];exact hsz
  ·rw [rY,hb.cell (p:=⟨b,_,none⟩) hbl];exact hc
theorem jT.elems {w0:World} {c:Nat} {NA:Option Addr} {nc:Nat} {bv ev:Value} {ops:List ByteArray} {L:Nat->vB} {gv:Value} {xs:List Value} {rb:Nat->Nat} {ys:Nat->List Value} {st:List (T×List T)} {w:World} (h:jT w0 c NA nc bv ev ops L gv xs rb ys st w) (hb:Below w0.heap.size w0 w) {ks:List ByteArray} (hk:bI w0 (.slice NA (ops.length+1) nc) ks) (ho:ops.length<=100000) :
  ∃ GA gc,gv=.slice GA st.length gc/\bJ w 15 GA (aO 5 0 ByteArray.empty (st.map (fZ ks)) []):=by
 have hx:xs.length=st.length*5:=h.grow.1;have hg:=h.grow;rcases h.grow.2 with ⟨rfl,h0⟩ | ⟨g,cap,cur,rfl,hb0,hgb,rest⟩
 ·exact ⟨none,0,by rw [h0],fun i hi=>by rw [aN,List.length_map] at hi;omega⟩
 ·refine ⟨_,_,rfl,fun i hi=>?_⟩;rw [aN,List.length_map] at hi;have hc:∀ r,r<5->w.cell? ⟨g,i*5+r,none⟩=some (cx xs (i*5+r)):=fun r hr'=>aX hg (dR (by omega));refine ⟨g,0,cx xs (i*5),cx xs (i*5+1),cx xs (i*5+2),cx xs (i*5+3),cx xs (i*5+4),rfl,(Array.getElem?_eq_some_iff.1 hgb).1,(by rw [Nat.zero_add];exact hc 0 (by omega)),(by rw [Nat.zero_add];exact hc 1 (by omega)),(by rw [Nat.zero_add];exact hc 2 (by omega)),(by rw [Nat.zero_add];exact hc 3 (by omega)),(by rw [Nat.zero_add];exact hc 4 (by omega)),?_⟩;rw [fC _ (by rw [List.length_map];exact hi),List.getElem_map];exact h.grp hb hk ho hi
structure ZO (lo c g n cap:Nat) (xs cs:List Value) (w6 wF:World):Prop where
 os:wF.os=w6.os
 tape:wF.tape=w6.tape
 output:wF.output=w6.output
 size:wF.heap.size=w6.heap.size
 fr:∀ b,b≠c->b≠g->wF.heap[b]?=w6.heap[b]?
 row:wF.ownsRow lo 25 5 (.slice (some ⟨g,0,none⟩) (n+1) cap) (n+1) (xs++cs)
 c4:wF.cell? ⟨c,4,none⟩=some (.slice (some ⟨g,0,none⟩) (n+1) cap)
 off:∀ o,o≠4->wF.cell? ⟨c,o,none⟩=w6.cell? ⟨c,o,none⟩
 fz:∀ o,wF.frozen? ⟨c,o,none⟩=w6.frozen? ⟨c,o,none⟩
theorem afJ {lo c g n cap:Nat} {xs:List Value} {y0 y1 y2 y3 y4:Value} {w6:World} (h:w6.ownsRow lo 25 5 (.slice (some ⟨g,0,none⟩) (n+1) cap) (n+1) (xs++[y0,y1,y2,y3,y4])) (hx:xs.length=n*5) (hgc:g≠c) {gv:Value} (hc:w6.cell? ⟨c,4,none⟩=some gv) (u0 u1 u2 u3 u4:Value) :
  ZO lo c g n cap xs [u0,u1,u2,u3,u4] w6 ((bG w6 g (n*5) u0 u1 u2 u3 u4).setCell ⟨c,4,none⟩ (.slice (some ⟨g,0,none⟩) (n+1) cap)):=by
 obtain ⟨r1,r2,r3,r4⟩:=jr w6 g (n*5) u0 u1 u2 u3 u4;have hoth:∀ b,b≠g->(bG w6 g (n*5) u0 u1 u2 u3 u4).heap[b]?=w6.heap[b]?:=fun b hb=>eB w6 hb _ _ _ _ _ _;have hrow:=ug h hx u0 u1 u2 u3 u4;generalize bG w6 g (n*5) u0 u1 u2 u3 u4=w7 at r1 r2 r3 r4 hoth hrow ⊢;have hcb:=hoth c (Ne.symm hgc);obtain ⟨t1,t2,t3,t4⟩:=gT w7 ⟨c,4,none⟩ (.slice (some ⟨g,0,none⟩) (n+1) cap);refine ⟨t2.trans r2,t3.trans r3,t4.trans r4,t1.trans r1,fun b h1 h2=>(Below.heap_setCell _ _ _ _ (by simpa using h1)).trans (hoth b h2),ownsRow_setCell_other (a:=⟨c,4,none⟩) hrow (by simpa [Value.ownBlock] using hgc) _,World.cell?_setCell_same w7 ⟨c,4,none⟩ _ ((aC hcb 4).trans hc),fun o ho=>?_,fun o=>?_⟩
 ·rw [World.cell?_setCell_other _ _ _ _ (by simp)];exact aC hcb o
 ·rw [World.frozen?_setCell];exact World.frozen?_of_block (a:=⟨c,o,none⟩) hcb
theorem afK {lo c g n cap:Nat} {xs:List Value} {y0 y1 y2 y3 y4:Value} {w6:World} (h:w6.ownsRow lo 25 5 (.slice (some ⟨g,0,none⟩) (n+1) cap) (n+1) (xs++[y0,y1,y2,y3,y4])) (hx:xs.length=n*5) (hgc:g≠c) {gv:Value} (hc:w6.cell? ⟨c,4,none⟩=some gv) (u0 u1 u2 u3 u4:Value) :
  ZO lo c g n cap xs [u0,u1,u2,u3,u4] w6 (bG (w6.setCell ⟨c,4,none⟩ (.slice (some ⟨g,0,none⟩) (n+1) cap)) g (n*5) u0 u1 u2 u3 u4):=by
 obtain ⟨t1,t2,t3,t4⟩:=gT w6 ⟨c,4,none⟩ (.slice (some ⟨g,0,none⟩) (n+1) cap);have k3:=ownsRow_setCell_other (a:=⟨c,4,none⟩) h (by simpa [Value.ownBlock] using hgc) (.slice (some ⟨g,0,none⟩) (n+1) cap);have k1:=World.cell?_setCell_same w6 ⟨c,4,none⟩ (.slice (some ⟨g,0,none⟩) (n+1) cap) hc;have k4:∀ b,b≠c->(w6.setCell ⟨c,4,none⟩ (.slice (some ⟨g,0,none⟩) (n+1) cap)).heap[b]?=w6.heap[b]?:=fun b hb=>Below.heap_setCell _ _ _ _ (by simpa using hb);have k5:∀ o,o≠4->(w6.setCell ⟨c,4,none⟩ (.slice (some ⟨g,0,none⟩) (n+1) cap)).cell? ⟨c,o,none⟩=w6.cell? ⟨c,o,none⟩:=fun o ho=>World.cell?_setCell_other _ _ _ _ (by simp);have k6:∀ o,(w6.setCell ⟨c,4,none⟩ (.slice (some ⟨g,0,none⟩) (n+1) cap)).frozen? ⟨c,o,none⟩=w6.frozen? ⟨c,o,none⟩:=fun o=>World.frozen?_setCell _ _ _ _;generalize w6.setCell ⟨c,4,none⟩ (.slice (some ⟨g,0,none⟩) (n+1) cap)=w7 at *;obtain ⟨r1,r2,r3,r4⟩:=jr w7 g (n*5) u0 u1 u2 u3 u4;have hoth:∀ b,b≠g->(bG w7 g (n*5) u0 u1 u2 u3 u4).heap[b]?=w7.heap[b]?:=fun b hb=>eB w7 hb _ _ _ _ _ _;have hrow:=ug k3 hx u0 u1 u2 u3 u4;generalize bG w7 g (n*5) u0 u1 u2 u3 u4=w8 at *;have hcb:=hoth c (Ne.symm hgc);exact ⟨r2.trans t2,r3.trans t3,r4.trans t4,r1.trans t1,fun b h1 h2=>(hoth b h2).trans (k4 b h1),hrow,(aC hcb 4).trans k1,fun o ho=>(aC hcb o).trans (k5 o ho),fun o=>(World.frozen?_of_block (a:=⟨c,o,none⟩) hcb).trans (k6 o)⟩
theorem jT.snoc {w0:World} {c:Nat} {NA:Option Addr} {nc:Nat} {bv ev:Value} {ops:List ByteArray} {L:Nat->vB} {gv:Value} {xs:List Value} {rb:Nat->Nat} {ys:Nat->List Value} {st:List (T×List T)} {w2 W4 w6 wF:World} (h:jT w0 c NA nc bv ev ops L gv xs rb ys st w2) (hb:Below w2.heap.size w2 W4) (hG:W4.grownBy w6 gv.ownBlock) {g cap:Nat} (hg:gv.ownBlock=some g\/W4.heap.size<=g) (hgl:g<w6.heap.size) {r:Nat} {zs:List Value} (hr0:w2.heap.size<=r) (hr:W4.ownsRow w2.heap.size 25 5 (.slice (some ⟨r,0,none⟩) (ops.length+1) (ops.length+1)) (ops.length+1) zs) {b:T} (hz0:At w0 13 (fv zs 0) b) (hbk:bM b) (hzk:∀ k,1<=k->k<ops.length+1->fv zs k=.agg #[.int .i64 0,.int .i64 0,.string ⟨#[]⟩,.slice none 0 0,.slice none 0 0])
  (hF:ZO w0.heap.size c g st.length cap xs [.int .i64 6,.int .i64 0,.string ⟨#[]⟩,.slice (some ⟨r,0,none⟩) (ops.length+1) (ops.length+1),.slice NA (ops.length+1) nc] w6 wF) :
  Below w0.heap.size w2 wF/\∃ L' xs',(∀ b,b<w2.heap.size->L b=.no->L' b=.no/\wF.heap[b]?=w2.heap[b]?)/\jT w0 c NA nc bv ev ops L' (.slice (some ⟨g,0,none⟩) (st.length+1) cap) xs' (fun i=>if i=st.length then r else rb i) (fun i=>if i=st.length then zs else ys i) (st++[(b,List.replicate ops.length aM)]) wF:=by
 have s1:=hb.size;have s2:=hG.size;have s3:=hF.size;have hcl:=h.low c (by rw [h.lc];intro e;cases e);have hrl:=(hr.lt r rfl).2;have hgo:∀ b,gv.ownBlock=some b->w0.heap.size<=b/\b<w2.heap.size:=fun b e=>h.low b (by rw [h.gl b e];intro e;cases e);have hxl:xs.length=st.length*5:=h.grow.1;have old:∀ b,b<w2.heap.size->b≠c->gv.ownBlock≠some b->wF.heap[b]?=w2.heap[b]?:=fun b h1 h2 h3=>(hF.fr b h2 (fun e=>by subst e;rcases hg with hg | hg;exact h3 hg;omega)).trans ((hG.block b (by omega) (fun e=>h3 e.symm)).trans (hb.block b h1));have hcell:∀ o,w6.cell? ⟨c,o,none⟩=w2.cell? ⟨c,o,none⟩:=fun o=>(aC (hG.block c (by omega) (fun e=>by have:=h.gl c e.symm;rw [h.lc] at this;cases this)) o).trans (hb.cell (p:=⟨c,o,none⟩) hcl.2);have hfz:∀ o,w6.frozen? ⟨c,o,none⟩=w2.frozen? ⟨c,o,none⟩:=fun o=>(World.frozen?_of_block (a:=⟨c,o,none⟩) (hG.block c (by omega) (fun e=>by have:=h.gl c e.symm;rw [h.lc] at this;cases this))).trans (World.frozen?_of_block (a:=⟨c,o,none⟩) (hb.block c hcl.2))
 have hrg:r≠g:=fun e=>by
  subst e;rcases hg with hg | hg
  ·have:=(hgo r hg).2;omega
  ·omega
 have hw0:w0.heap.size<=g:=by
  rcases hg with hg | hg
  ·exact (hgo g hg).1
  ·omega
 refine ⟨⟨hF.os.trans (hG.os.trans hb.os),hF.tape.trans (hG.tape.trans hb.tape),hF.output.trans (hG.output.trans hb.output),by omega,fun b hb'=>old b (by omega) (by omega) (fun e=>by have:=(hgo b e).1;omega)⟩,fun b=>if b<w2.heap.size then L b else if b=g then .grp else if b=r then .row st.length else .no,_,fun b h1 h2=>⟨by simp only [if_pos h1];exact h2,old b h1 (fun e=>by rw [e,h.lc] at h2;cases h2) (fun e=>by rw [h.gl _ e] at h2;cases h2)⟩,?_,?_,(hF.off 0 (by omega)).trans ((hcell 0).trans h.c0),(hF.off 1 (by omega)).trans ((hcell 1).trans h.c1),(hF.off 2 (by omega)).trans ((hcell 2).trans h.c2),(hF.off 3 (by omega)).trans ((hcell 3).trans h.c3),hF.c4,(hF.fz 0).trans ((hfz 0).trans h.f0),(hF.fz 4).trans ((hfz 4).trans h.f4),by rw [List.length_append];exact hF.row,?_,?_,?_,?_,?_,?_,?_⟩
 ·simp only [if_pos hcl.2];exact h.lc
 ·intro b hb';by_cases e1:b<w2.heap.size
  ·simp only [if_pos e1] at hb';have:=h.low b hb';omega
  ·by_cases e2:b=g
   ·omega
   ·by_cases e3:b=r
    ·omega
    ·simp only [if_neg e1,if_neg e2,if_neg e3] at hb';exact absurd rfl hb'
 ·intro b e;obtain rfl:g=b:=by simpa [Value.ownBlock] using e
  by_cases e1:g<w2.heap.size
  ·simp only [if_pos e1];rcases hg with hg | hg
   ·exact h.gl g hg
   ·omega
  ·simp only [if_neg e1,if_true]
 ·intro i hi;rw [List.length_append,List.length_cons,List.length_nil] at hi;by_cases e:i<st.length
  ·rw [pU hxl e,if_neg (by omega)];exact h.el i e
  ·obtain rfl:i=st.length:=by omega
   rw [uw hxl,if_pos rfl]
 ·intro i hi;rw [List.length_append,List.length_cons,List.length_nil] at hi;by_cases e:i<st.length
  ·have h1:=h.rl i e;have h2:=h.low (rb i) (by rw [h1];intro e;cases e);simp only [if_neg (show ¬ i=st.length by omega),if_pos h2.2];exact h1
  ·obtain rfl:i=st.length:=by omega
   simp only [if_true,if_neg (show ¬ r<w2.heap.size by omega),if_neg hrg]
 ·intro i hi;rw [List.length_append,List.length_cons,List.length_nil] at hi;by_cases e:i<st.length
  ·have h1:=h.rl i e;have h2:=h.low (rb i) (by rw [h1];intro e;cases e);simp only [if_neg (show ¬ i=st.length by omega)];refine eH (h.row i e) fun b' e'=>?_;obtain rfl:rb i=b':=by simpa [Value.ownBlock] using e'
   exact old _ h2.2 (fun e=>by rw [e,h.lc] at h1;cases h1) (fun e=>by rw [h.gl _ e] at h1;cases h1)
  ·obtain rfl:i=st.length:=by omega
   simp only [if_true];refine Fy (eH hr fun b' e'=>?_) (by omega);obtain rfl:r=b':=by simpa [Value.ownBlock] using e'
   exact (hF.fr r (by omega) hrg).trans (hG.block r hrl (fun e=>by have:=(hgo r e.symm).2;omega))
 ·intro i hi;rw [List.length_append,List.length_cons,List.length_nil] at hi;by_cases e:i<st.length
  ·simp only [if_neg (show ¬ i=st.length by omega),List.getElem_append_left e];exact h.Xr i e
  ·obtain rfl:i=st.length:=by omega
   simp only [if_true,List.getElem_append_right (Nat.le_refl _),Nat.sub_self,List.getElem_cons_zero];exact ⟨hz0,hbk⟩
 ·intro i hi;rw [List.length_append,List.length_cons,List.length_nil] at hi;by_cases e:i<st.length
  ·rw [List.getElem_append_left e];exact h.len i e
  ·obtain rfl:i=st.length:=by omega
   simp only [List.getElem_append_right (Nat.le_refl _),Nat.sub_self,List.getElem_cons_zero,List.length_replicate]
 ·intro i hi j hj;rw [List.length_append,List.length_cons,List.length_nil] at hi;by_cases e:i<st.length
  ·simp only [if_neg (show ¬ i=st.length by omega),List.getElem_append_left e];refine (h.acc i e j hj).move fun b' e'=>?_;have h2:=h.low b' (by rw [e'];intro e;cases e);simp only [if_pos h2.2];exact ⟨e',old _ h2.2 (fun e=>by rw [e,h.lc] at e';cases e') (fun e=>by rw [h.gl _ e] at e';cases e')⟩
  ·obtain rfl:i=st.length:=by omega
   simp only [if_true,List.getElem_append_right (Nat.le_refl _),Nat.sub_self,List.getElem_cons_zero];rw [hzk (j+1) (by omega) (by omega)]
   have ez:(List.replicate ops.length aM).getD j aM=aM:=by
    rw [List.getD_eq_getElem?_getD];simp [hj]
   rw [ez];by_cases eg:ops[j]=fD
   ·exact .inr ⟨eg,none,0,[],rfl,.inl rfl,World.ownsRow_nil _ _ _ _,by show (0:Nat)<=_;omega,fun b e=>by simp [Value.ownBlock] at e,fun k hk=>absurd hk (Nat.not_lt_zero k)⟩
   ·exact .inl ⟨eg,(Qd w0).up (by omega),fun hk=>absurd rfl hk⟩
def dS (st:List (T×List T)) (b:T):Nat:=st.findIdx fun s=>yc s.1 b
def eX (n:Nat) (st:List (T×List T)) (b:T):List (T×List T):=if dS st b<st.length then st else st++[(b,List.replicate n aM)]
theorem CG {st:List (T×List T)} {b:T} {k:Nat} (hk:k<st.length) (h:yc st[k].1 b=true) (hb:∀ j,(hj:j<st.length)->j<k->yc st[j].1 b=false):dS st b=k:=by
 unfold dS;rw [List.findIdx_eq hk];exact ⟨h,fun j hj=>hb j (by omega) hj⟩
theorem Tq {st:List (T×List T)} {b:T} (hb:∀ j,(hj:j<st.length)->yc st[j].1 b=false):dS st b=st.length:=by
 unfold dS;rw [List.findIdx_eq_length];intro x hx;obtain ⟨j,hj,rfl⟩:=List.getElem_of_mem hx;exact hb j hj
theorem kK (ks:List ByteArray) (s:T×List T):elt (fZ ks s) 0=s.1:=rfl
def CJ (w0:World) (c:Nat) (NA:Option Addr) (nc:Nat) (bv ev:Value) (ops:List ByteArray) (L0:Nat->vB) (st:List (T×List T)) (b:T) (w:World) (e:Ending) (w':World):Prop :=
 Below w0.heap.size w w'/\∃ L gv xs rb ys,jT w0 c NA nc bv ev ops L gv xs rb ys (eX ops.length st b) w'/\(∀ b,b<w.heap.size->L0 b=.no->L b=.no/\w'.heap[b]?=w.heap[b]?)/\∃ o,(ops≠[]->o=5)/\e=.returned (.slice (some ⟨rb (dS st b),o,none⟩) ops.length ops.length)
theorem uy {p:T->Bool} {t:T}:∀ {k j:Nat},dw p t k=false->j<k->p (elt t j)=false
 | 0,_,_,h=>absurd h (Nat.not_lt_zero _)
 | k+1,j,h,hj=>by
  rw [dw,Bool.or_eq_false_iff] at h;by_cases e:j<k
  ·exact uy h.1 e
  ·obtain rfl:j=k:=by omega
   exact h.2
theorem jT.QI {w0:World} {c:Nat} {NA:Option Addr} {nc:Nat} {bv ev:Value} {ops:List ByteArray} {L:Nat->vB} {gv:Value} {xs:List Value} {rb:Nat->Nat} {ys:Nat->List Value} {st:List (T×List T)} {w:World} (h:jT w0 c NA nc bv ev ops L gv xs rb ys st w) {i:Nat} (hi:i<st.length):∃ g cap,gv=.slice (some ⟨g,0,none⟩) st.length cap/\w.cell? ⟨g,i*5+3,none⟩=some (.slice (some ⟨rb i,0,none⟩) (ops.length+1) (ops.length+1)):=by
 have hx:xs.length=st.length*5:=h.grow.1;have hg:=h.grow;rcases h.grow.2 with ⟨rfl,h0⟩ | ⟨g,cap,cur,rfl,hb0,hgb,rest⟩
 ·omega
 ·refine ⟨g,cap,rfl,?_⟩;rw [aX hg (dR (by omega))];have:=h.el i hi;unfold fv at this;simp only [Value.agg.injEq,Array.mk.injEq,List.cons.injEq,and_true] at this;rw [this.2.2.2.1]
theorem z8 (w0:World) (c:Nat) (NA:Option Addr) (nc:Nat) (bv ev:Value) (ops:List ByteArray) (L:Nat->vB) (gv:Value) (xs:List Value) (rb:Nat->Nat) (ys:Nat->List Value) (st:List (T×List T)) (b:T) (A C:Option Addr) (B D:Nat) (w:World) (ks:List ByteArray) (hI:jT w0 c NA nc bv ev ops L gv xs rb ys st w) (hb0:Below w0.heap.size w0 w) (hk:bI w0 (.slice NA (ops.length+1) nc) ks) (ho:ops.length<=100000) (hn:st.length<=1000000) (ha:At w0 13 (.agg #[.int .i64 (aj b),.int .i64 (av b),.string (ay b),.slice A (nL b) B,.slice C (nK b) D]) b) (hbk:bM b) (hold:dS st b<st.length) :
  Calls Tryz.prog 359 #[.pointer (some ⟨c,0,none⟩),.agg #[.int .i64 (aj b),.int .i64 (av b),.string (ay b),.slice A (nL b) B,.slice C (nK b) D]] w (CJ w0 c NA nc bv ev ops L st b w):=by
 have Rk:∀ (fn:Fn) (first cap:Array Value) (w:World),(Instr.makeFunc fn first cap).run Tryz.prog w=.ok (.func fn first cap) w:=fun _ _ _ _=>rfl;have HB1:=ak (aY w (vC b A B C D));have HX:=ak (aR w (.int .i64 (aj b)) (.int .i64 (av b)) (.string (ay b)) (.slice A (nL b) B) (.slice C (nK b) D));have HI1:=ak (hI.keep HB1.out);have GN:=ak (hb0.trans (HB1.out.mono hb0.size));obtain ⟨GA,gc,hgv,hel⟩:=HI1.out.elems GN.out hk ho
 have Xt:=ak (mJ (fun t=>yc (elt t 0) b) 361 (fun _ _=>rfl) (.pointer (some ⟨w.heap.size,0,none⟩)) 15 GA gc (aO 5 0 ByteArray.empty (st.map (fZ ks)) []) _ hel (by rw [aN,List.length_map];omega) (fun k hk' wr v hb ha'=>by
  rw [aN,List.length_map] at hk';rw [fC _ (by rw [List.length_map];exact hk'),List.getElem_map] at ha' ⊢;exact FI 15 13 v _ w.heap.size b A C B D wr ha' (by unfold fZ;rw [aN];simp) (by omega) (by rw [kK];exact (hI.Xr k hk').2) ((ha.keep GN.out).keep hb) hbk (HX.out.stay hb)))
 rw [aN,List.length_map] at Xt;have Hn:Hid (∀ k,(h:k<st.length)->elt (aO 5 0 ByteArray.empty (st.map (fZ ks)) []) k=fZ ks st[k]):=fun k h=>by rw [fC _ (by rw [List.length_map];exact h),List.getElem_map]
 have Hold:=ak hold;have HB0:=ak hb0;have c4:=HI1.out.c4;rw [hgv] at c4;subst hgv;clear hI hb0 hk ha hbk hel hold ho;go_in;go_wp2_with fail;refine Xt.out.mono ?_;rintro e w2 ⟨b2,m,rfl,⟨rfl,hno⟩ | ⟨k,rfl,hk,hp,hbef⟩⟩
 ·exfalso;have:=Tq (st:=st) (b:=b) (fun j hj=>by have:=uy hno hj;rwa [Hn.out j hj,kK] at this);have:=Hold.out;omega
 ·rw [Hn.out k hk,kK] at hp;have HK:=ak (CG hk hp (fun j hj hjk=>by have:=uy hbef hjk;rwa [Hn.out j hj,kK] at this));have HI2:=ak (HI1.out.keep b2);have fI:=ak ((HB1.out.trans (b2.mono HB1.out.size)).mono HB0.out.size);have wO:=ak (HB1.out.trans (b2.mono HB1.out.size));obtain ⟨g,cap,Xu,hrc⟩:=HI2.out.QI hk;simp only [Value.slice.injEq,true_and] at Xu;obtain ⟨rfl,rfl⟩:=Xu;have c42:=HI2.out.c4;have HS:Hid (eX ops.length st b=st):=by show _=_;unfold eX;rw [if_pos (by rw [HK.out];exact hk)]
  have x1:(k:Int)<(st.length:Int):=by omega
  have x2:¬ (k:Int)<0:=by omega
  clear b2 hp hbef Xt
  have vW:Hid (CJ w0 c NA nc bv ev ops L st b w (.returned (.slice (some ⟨rb k,if ops.length=0 then 0 else 5,none⟩) ops.length ops.length)) w2):=by
   refine ⟨fI.out,L,_,xs,rb,ys,by rw [HS.out];exact HI2.out,fun b h1 h2=>⟨h2,wO.out.block b h1⟩,_,fun h=>?_,by rw [HK.out]⟩;rw [if_neg];intro e;exact h (List.length_eq_zero_iff.1 e)
  clear HI2 fI wO HS HK HB0 Hold Hn HI1 HB1 GN;rcases Nat.eq_zero_or_pos ops.length with e0 | e0
  ·rw [if_pos e0,e0] at vW;go_wp2_with fail
   all_goals (go_ret;first | exact vW.out | (exfalso;omega))
  ·rw [if_neg (by omega)] at vW;have e1:ops≠[]:=fun e=>by rw [e] at e0;exact absurd e0 (Nat.lt_irrefl 0)
   go_wp2_with fail
   all_goals first | contradiction | (go_ret;exact vW.out)
end Go.Proofs.YtknakfpciccoaaaGreatDoor
