import Derived.Test.YtknakfpciccoaabGreatDoorZL3
import Derived.Test.YtknakfpciccoaabGreatDoorZL4
import Derived.Test.YtknakfpciccoaabGreatDoorZL2
import Derived.Lib.ItoaNum
import Derived.KernelRfl
/- Values whose lists are the call's own: each list lies in a block of its own. -/
set_option maxRecDepth 100000
namespace Go.Proofs.YtknakfpciccoaabGreatDoor
open Go.RowKit
abbrev eV:TypeId:=36
abbrev eS:TypeId:=9
structure kV where
 l:Value
 n:Nat
 k:Value
 m:Nat
def xI (e:kV):List Nat:=e.l.ownBlock.toList++e.k.ownBlock.toList
def q8 (es:List kV):List Nat:=es.flatMap xI
theorem aV (a b:List kV):q8 (a++b)=q8 a++q8 b:=by simp [q8]
theorem iw (e:kV):q8 [e]=xI e:=by simp [q8]
def kW (sub:Nat->List kV):Nat->List kV
 | 0=>[]
 | k+1=>kW sub k++sub k
theorem Au {s s':Nat->List kV}:∀ k,(∀ i,i<k->s i=s' i)->kW s k=kW s' k
 | 0,_=>rfl
 | k+1,h=>by rw [kW,kW,Au k (fun i hi=>h i (by omega)),h k (by omega)]
theorem pK {s:Nat->List kV} {b:Nat}:∀ {k i:Nat},i<k->b ∈ q8 (s i)->b ∈ q8 (kW s k)
 | k+1,i,hi,hb=>by
  rw [kW,aV,List.mem_append];by_cases e:i=k
  ·subst e;exact .inr hb
  ·exact .inl (pK (by omega) hb)
structure qm (lo:Nat) (w:World) (es:List kV):Prop where
 nodup:(q8 es).Nodup
 lies:∀ b ∈ q8 es,lo<=b/\b<w.heap.size
def cx (xs:List Value) (j:Nat):Value:=xs[j]?.getD (.int .i64 0)
def fv (xs:List Value) (i:Nat):Value:=.agg #[cx xs (i*5),cx xs (i*5+1),cx xs (i*5+2),cx xs (i*5+3),cx xs (i*5+4)]
def gG (ks:List ByteArray):List Value:=ks.map Value.string
def iy (w:World):Nat->Value->T->List kV->Prop
 | 0,_,_,_=>False
 | f+1,v,t,es=>∃ (Lv Kv:Value) (xs:List Value) (sub:Nat->List kV),
   v=.agg #[.int .i64 (ah t),.int .i64 (au t),.string (ay t),Lv,Kv]/\zk t /\
   w.ownsRow 0 eV 5 Lv (nL t) xs/\w.ownsRow 0 eS 1 Kv (nK t) (gG (kQ t)) /\
   (∀ i,i<nL t->iy w f (fv xs i) (elt t i) (sub i))/\(∀ i,i<nK t->(bR t i).size<=140737488355328) /\
   es=kW sub (nL t)++[⟨Lv,nL t,Kv,nK t⟩]
theorem eZ {w w':World} {lo:Nat} {e:TypeId} {size n:Nat} {v:Value} {xs:List Value} (h:w.ownsRow lo e size v n xs) (hb:∀ b,v.ownBlock=some b->w'.heap[b]?=w.heap[b]?):w'.ownsRow lo e size v n xs:=by
 refine ⟨h.1,?_⟩;rcases h.2 with hn | ⟨g,cap,cur,rfl,hb0,hg,rest⟩
 ·exact .inl hn
 ·exact .inr ⟨g,cap,cur,rfl,hb0,(hb g rfl).trans hg,rest⟩
theorem wh {w:World} {lo lo':Nat} {e:TypeId} {size n:Nat} {v:Value} {xs:List Value} (h:w.ownsRow lo e size v n xs) (hl:∀ b,v.ownBlock=some b->lo'<=b):w.ownsRow lo' e size v n xs:=by
 refine ⟨h.1,?_⟩;rcases h.2 with hn | ⟨g,cap,cur,rfl,hb0,rest⟩
 ·exact .inl hn
 ·exact .inr ⟨g,cap,cur,rfl,hl g rfl,rest⟩
theorem iy.move {w w':World}:∀ {f:Nat} {v:Value} {t:T} {es:List kV},(∀ b ∈ q8 es,w'.heap[b]?=w.heap[b]?)->iy w f v t es->iy w' f v t es:=by
 intro f
 induction f with
 | zero=>intro v t es _ h;exact h
 | succ f ih =>
  rintro v t es hb ⟨Lv,Kv,xs,sub,rfl,hf,hl,hk,hc,hn,rfl⟩;have hx:∀ b,b ∈ xI ⟨Lv,nL t,Kv,nK t⟩->w'.heap[b]?=w.heap[b]?:=fun b h=>hb b (by rw [aV,iw];simp [h]);refine ⟨Lv,Kv,xs,sub,rfl,hf,eZ hl fun b e=>hx b ?_,eZ hk fun b e=>hx b ?_,fun i hi=>ih (fun b h=>hb b ?_) (hc i hi),hn,rfl⟩
  ·simp [xI,e]
  ·simp [xI,e]
  ·rw [aV];exact List.mem_append_left _ (pK hi h)
theorem fC {w:World} {lo:Nat} {e:TypeId} {size n:Nat} {v:Value} {xs:List Value} (h:w.ownsRow lo e size v n xs):∃ A c,v=.slice A n c:=by
 rcases h.2 with ⟨rfl,rfl⟩ | ⟨g,cap,cur,rfl,_⟩
 ·exact ⟨none,0,rfl⟩
 ·exact ⟨_,cap,rfl⟩
theorem wm {w:World} {lo:Nat} {e:TypeId} {size n:Nat} {v:Value} {xs:List Value} (h:w.ownsRow lo e size v n xs) (h0:0<n):∃ g cap,v=.slice (some ⟨g,0,none⟩) n cap/\g<w.heap.size/\lo<=g/\n<=cap/\(∀ j,j<n*size->w.cell? ⟨g,j,none⟩=some (cx xs j))/\∀ j,w.frozen? ⟨g,j,none⟩=false:=by
 rcases h.2 with ⟨rfl,rfl⟩ | ⟨g,cap,cur,rfl,hlo,hg,hnc,_⟩
 ·omega
 ·refine ⟨g,cap,rfl,(h.lt g rfl).2,hlo,hnc,fun j hj=>?_,fun j=>h.frozenAt j⟩;rw [h.cellAt j hj];have:j<xs.length:=by rw [h.1];exact hj
  simp [cx,this]
theorem iy.at {w:World}:∀ {f:Nat} {v:Value} {t:T} {es:List kV},iy w f v t es->At w f v t:=by
 intro f
 induction f with
 | zero=>intro v t es h;exact h
 | succ f ih =>
  rintro v t es ⟨Lv,Kv,xs,sub,rfl,hf,hl,hk,hc,hn,rfl⟩;obtain ⟨A,c,rfl⟩:=fC hl;obtain ⟨C,d,rfl⟩:=fC hk;refine ⟨A,C,c,d,rfl,hf,fun i hi=>?_,fun i hi=>?_⟩
  ·obtain ⟨g,cap,e,hg,_,_,hcell,_⟩:=wm hl (by omega);cases e;refine ⟨g,0,_,_,_,_,_,rfl,hg,?_,?_,?_,?_,?_,ih (hc i hi)⟩
   ·rw [Nat.zero_add];exact hcell _ (by omega)
   ·rw [Nat.zero_add];exact hcell _ (by omega)
   ·rw [Nat.zero_add];exact hcell _ (by omega)
   ·rw [Nat.zero_add];exact hcell _ (by omega)
   ·rw [Nat.zero_add];exact hcell _ (by omega)
  ·obtain ⟨g,cap,e,hg,_,_,hcell,_⟩:=wm hk (by omega);cases e;refine ⟨g,0,rfl,hg,hn i hi,?_⟩;rw [Nat.zero_add,hcell i (by omega)];have hi':i<(kQ t).length:=hi;simp [cx,gG,bR,List.getD_eq_getElem?_getD,hi']
def ahn (w:World) (v:Value) (n:Nat):Prop:=∃ xs,w.ownsRow 0 eV 5 v n xs
def aho (w:World) (v:Value) (n:Nat):Prop:=∃ xs,w.ownsRow 0 eS 1 v n xs
def aeH (w:World) (es:List kV):Prop:=∀ e ∈ es,ahn w e.l e.n/\aho w e.k e.m
theorem FX {s:Nat->List kV} {e:kV}:∀ {k:Nat},e ∈ kW s k->∃ i,i<k/\e ∈ s i
 | 0,h=>by cases h
 | k+1,h=>by
  rw [kW,List.mem_append] at h;rcases h with h | h
  ·obtain ⟨i,hi,hh⟩:=FX h;exact ⟨i,by omega,hh⟩
  ·exact ⟨k,by omega,h⟩
theorem iy.rows {w:World}:∀ {f:Nat} {v:Value} {t:T} {es:List kV},iy w f v t es->aeH w es:=by
 intro f
 induction f with
 | zero=>intro v t es h;exact h.elim
 | succ f ih =>
  rintro v t es ⟨Lv,Kv,xs,sub,rfl,hf,hl,hk,hc,hn,rfl⟩ e he;rw [List.mem_append] at he;rcases he with he | he
  ·obtain ⟨i,hi,hh⟩:=FX he;exact ih (hc i hi) e hh
  ·simp only [List.mem_singleton] at he;subst he;exact ⟨⟨_,hl⟩,⟨_,hk⟩⟩
theorem qm.child {lo:Nat} {w w':World} {A es:List kV} {e:kV} (h:qm lo w (A++[e])) (hs:w.heap.size<=w'.heap.size) (hc:qm w.heap.size w' es) (hlo:lo<=w.heap.size):qm lo w' (A++es++[e]):=by
 have h1:=h.nodup;have h2:=h.lies;have h3:=hc.nodup;have h4:=hc.lies;rw [aV] at h1 h2;refine ⟨?_,?_⟩
 ·rw [aV,aV];rw [List.nodup_append] at h1 ⊢;obtain ⟨a1,a2,a3⟩:=h1;refine ⟨?_,a2,?_⟩
  ·rw [List.nodup_append];refine ⟨a1,h3,fun a ha b hb=>?_⟩;have:=h2 a (List.mem_append_left _ ha);have:=h4 b hb;omega
  ·intro a ha b hb;rw [List.mem_append] at ha;rcases ha with ha | ha
   ·exact a3 a ha b hb
   ·have:=h2 b (List.mem_append_right _ hb);have:=h4 a ha;omega
 ·intro b hb;rw [aV,aV,List.mem_append,List.mem_append] at hb;rcases hb with (hb | hb) | hb
  ·have:=h2 b (List.mem_append_left _ hb);omega
  ·have:=h4 b hb;omega
  ·have:=h2 b (List.mem_append_right _ hb);omega
def Av (w:World) (v v':Value):Prop:=v'.ownBlock=v.ownBlock\/∀ g,v'.ownBlock=some g->w.heap.size<=g
theorem qm.newL {lo:Nat} {w w':World} {A:List kV} {L L' K:Value} {n n' m:Nat} (h:qm lo w (A++[⟨L,n,K,m⟩])) (hs:w.heap.size<=w'.heap.size) (hn:Av w L L') (hl:∀ g,L'.ownBlock=some g->g<w'.heap.size) (hlo:lo<=w.heap.size):qm lo w' (A++[⟨L',n',K,m⟩]):=by
 have h1:=h.nodup;have h2:=h.lies;rw [aV,iw] at h1 h2
 have h3:∀ g,L'.ownBlock=some g->L.ownBlock=some g\/w.heap.size<=g:=by
  intro g hg;rcases hn with e | e
  ·exact .inl (e ▸ hg)
  ·exact .inr (e g hg)
 refine ⟨?_,?_⟩
 ·rw [aV,iw];simp only [xI] at h1 h2 ⊢;rw [List.nodup_append,List.nodup_append] at h1 ⊢;obtain ⟨a1,⟨b1,b2,b3⟩,a3⟩:=h1;refine ⟨a1,⟨by cases L'.ownBlock<;>simp,b2,fun a ha b hb=>?_⟩,fun a ha b hb=>?_⟩
  ·rcases h3 a (by simpa using ha) with e | e
   ·exact b3 a (by simp [e]) b hb
   ·have:=h2 b (by simp only [List.mem_append];exact .inr (.inr hb));omega
  ·rw [List.mem_append] at hb;rcases hb with hb | hb
   ·rcases h3 b (by simpa using hb) with e | e
    ·exact a3 a ha b (by simp [e])
    ·have:=h2 a (by simp only [List.mem_append];exact .inl ha);omega
   ·exact a3 a ha b (by simp only [List.mem_append];exact .inr hb)
 ·intro b hb;rw [aV,iw] at hb;simp only [xI,List.mem_append] at hb h2;rcases hb with hb | hb | hb
  ·have:=h2 b (.inl hb);omega
  ·have hb':L'.ownBlock=some b:=by simpa using hb
   have:=hl b hb';rcases h3 b hb' with e | e
   ·have:=h2 b (.inr (.inl (by simp [e])));omega
   ·omega
  ·have:=h2 b (.inr (.inr hb));omega
theorem qm.ahp {lo:Nat} {w w':World} {A:List kV} {L K K':Value} {n m m':Nat} (h:qm lo w (A++[⟨L,n,K,m⟩])) (hs:w.heap.size<=w'.heap.size) (hn:Av w K K') (hl:∀ g,K'.ownBlock=some g->g<w'.heap.size) (hlo:lo<=w.heap.size):qm lo w' (A++[⟨L,n,K',m'⟩]):=by
 have h1:=h.nodup;have h2:=h.lies;rw [aV,iw] at h1 h2
 have h3:∀ g,K'.ownBlock=some g->K.ownBlock=some g\/w.heap.size<=g:=by
  intro g hg;rcases hn with e | e
  ·exact .inl (e ▸ hg)
  ·exact .inr (e g hg)
 refine ⟨?_,?_⟩
 ·rw [aV,iw];simp only [xI] at h1 h2 ⊢;rw [List.nodup_append,List.nodup_append] at h1 ⊢;obtain ⟨a1,⟨b1,b2,b3⟩,a3⟩:=h1;refine ⟨a1,⟨b1,by cases K'.ownBlock<;>simp,fun a ha b hb=>?_⟩,fun a ha b hb=>?_⟩
  ·rcases h3 b (by simpa using hb) with e | e
   ·exact b3 a ha b (by simp [e])
   ·have:=h2 a (by simp only [List.mem_append];exact .inr (.inl ha));omega
  ·rw [List.mem_append] at hb;rcases hb with hb | hb
   ·exact a3 a ha b (by simp only [List.mem_append];exact .inl hb)
   ·rcases h3 b (by simpa using hb) with e | e
    ·exact a3 a ha b (by simp [e])
    ·have:=h2 a (by simp only [List.mem_append];exact .inl ha);omega
 ·intro b hb;rw [aV,iw] at hb;simp only [xI,List.mem_append] at hb h2;rcases hb with hb | hb | hb
  ·have:=h2 b (.inl hb);omega
  ·have:=h2 b (.inr (.inl hb));omega
  ·have hb':K'.ownBlock=some b:=by simpa using hb
   have:=hl b hb';rcases h3 b hb' with e | e
   ·have:=h2 b (.inr (.inr (by simp [e])));omega
   ·omega
structure qo (lo f:Nat) (w:World) (Lv Kv:Value) (L:List T) (K:List ByteArray) (xs:List Value) (sub:Nat->List kV):Prop where
 low:lo<=w.heap.size
 zm:w.ownsRow lo eV 5 Lv L.length xs
 Ja:w.ownsRow lo eS 1 Kv K.length (gG K)
 kids:∀ i,i<L.length->iy w f (fv xs i) (L.getD i .nil) (sub i)
 names:∀ s ∈ K,s.size<=140737488355328
 sep:qm lo w (kW sub L.length++[⟨Lv,L.length,Kv,K.length⟩])
theorem qo.start (lo f:Nat) (w:World) (h:lo<=w.heap.size):qo lo f w (.slice none 0 0) (.slice none 0 0) [] [] [] (fun _=>[]) :=
 ⟨h,World.ownsRow_nil _ _ _ _,World.ownsRow_nil _ _ _ _,(fun i hi=>by simp at hi),(fun s hs=>by cases hs),⟨by simp [q8,xI,kW,Value.ownBlock],fun b hb=>by simp [q8,xI,kW,Value.ownBlock] at hb⟩⟩
theorem qo.move {lo f:Nat} {w w':World} {Lv Kv:Value} {L:List T} {K:List ByteArray} {xs:List Value} {sub:Nat->List kV} (h:qo lo f w Lv Kv L K xs sub) (hs:w.heap.size<=w'.heap.size) (hb:∀ b,lo<=b->b<w.heap.size->w'.heap[b]?=w.heap[b]?):qo lo f w' Lv Kv L K xs sub:=by
 have hx:∀ b ∈ q8 (kW sub L.length++[⟨Lv,L.length,Kv,K.length⟩]),w'.heap[b]?=w.heap[b]?:=fun b hh=>by
  have:=h.sep.lies b hh;exact hb b this.1 this.2
 have hy:∀ b,b ∈ xI ⟨Lv,L.length,Kv,K.length⟩->w'.heap[b]?=w.heap[b]?:=fun b hh=>hx b (by rw [aV,iw];exact List.mem_append_right _ hh);refine ⟨Nat.le_trans h.low hs,eZ h.zm (fun b e=>hy b (by simp [xI,e])),eZ h.Ja (fun b e=>hy b (by simp [xI,e])),(fun i hi=>(h.kids i hi).move fun b hh=>hx b (by rw [aV];exact List.mem_append_left _ (pK hi hh))),h.names,⟨h.sep.nodup,fun b hh=>?_⟩⟩;have:=h.sep.lies b hh;omega
theorem qo.set {lo f:Nat} {w:World} {Lv Kv:Value} {L:List T} {K:List ByteArray} {xs:List Value} {sub:Nat->List kV} (h:qo lo f w Lv Kv L K xs sub) (c o:Nat) (u:Value) (hc:c<lo):qo lo f (w.setCell ⟨c,o,none⟩ u) Lv Kv L K xs sub :=
 h.move (by simp [World.setCell]) fun b h1 _=>Below.heap_setCell _ _ _ _ (by simpa using (by omega:b≠c))
theorem og {a b:List Nat} {x:Nat} (h:(a++b).Nodup) (ha:x ∈ a) (hb:x ∈ b):False:=(List.nodup_append.1 h).2.2 x ha x hb rfl
theorem qo.ahq {lo f:Nat} {w w':World} {Lv Kv QI:Value} {L:List T} {K:List ByteArray} {xs:List Value} {sub:Nat->List kV} (h:qo lo f w Lv Kv L K xs sub) (k:ByteArray) (hk:k.size<=140737488355328)
  (hO:w'.ownsRow lo eS 1 QI (K.length+1) (gG K++[.string k])) (hG:w.grownBy w' Kv.ownBlock) (hN:Av w Kv QI):qo lo f w' Lv QI L (K++[k]) xs sub:=by
 have hnd:=h.sep.nodup;have hlies:=h.sep.lies;rw [aV,iw] at hnd hlies;have hkl:(K++[k]).length=K.length+1:=by simp
 refine ⟨Nat.le_trans h.low hG.size,eZ h.zm fun b e=>?_,?_,fun i hi=>(h.kids i hi).move fun b hh=>?_,?_,?_⟩
 ·have h1:b ∈ xI ⟨Lv,L.length,Kv,K.length⟩:=by simp [xI,e]
  refine hG.block b (hlies b (List.mem_append_right _ h1)).2 fun e2=>?_;have h2:(xI ⟨Lv,L.length,Kv,K.length⟩).Nodup:=(List.nodup_append.1 hnd).2.1;exact og (x:=b) h2 (by simp [e]) (by simp [<- e2])
 ·rw [hkl];have e:gG (K++[k])=gG K++[.string k]:=by simp [gG]
  rw [e];exact hO
 ·have h1:=pK hi hh;refine hG.block b (hlies b (List.mem_append_left _ h1)).2 fun e2=>?_;exact og hnd h1 (by simp [xI,<- e2])
 ·intro s hs;rw [List.mem_append] at hs;rcases hs with hs | hs
  ·exact h.names s hs
  ·simp only [List.mem_singleton] at hs;subst hs;exact hk
 ·rw [hkl];exact h.sep.ahp hG.size hN (fun g e=>(hO.lt g e).2) h.low
def Jb (sub:Nat->List kV) (n:Nat) (es:List kV) (i:Nat):List kV:=if i=n then es else sub i
theorem YK (sub:Nat->List kV) (n:Nat) (es:List kV):kW (Jb sub n es) (n+1)=kW sub n++es:=by
 rw [kW,Au (s':=sub) n (fun i hi=>by simp [Jb,show i≠n by omega])];simp [Jb]
theorem abA {xs ys:List Value} {n i:Nat} (hl:xs.length=n*5) (hi:i<n):fv (xs++ys) i=fv xs i:=by
 have h:∀ j,j<xs.length->cx (xs++ys) j=cx xs j:=fun j hj=>by simp [cx,List.getElem?_append_left hj]
 unfold fv;rw [h _ (by omega),h _ (by omega),h _ (by omega),h _ (by omega),h _ (by omega)]
theorem abB {xs:List Value} {n:Nat} {c0 c1 c2 c3 c4:Value} (hl:xs.length=n*5):fv (xs++[c0,c1,c2,c3,c4]) n=.agg #[c0,c1,c2,c3,c4]:=by
 have h:∀ j,cx (xs++[c0,c1,c2,c3,c4]) (n*5+j)=cx [c0,c1,c2,c3,c4] j:=fun j=>by
  unfold cx;rw [List.getElem?_append_right (by omega),hl,Nat.add_sub_cancel_left]
 unfold fv;have h0:=h 0;rw [Nat.add_zero] at h0;rw [h0,h 1,h 2,h 3,h 4];rfl
theorem qo.ahr {lo f:Nat} {w w':World} {Lv QJ Kv:Value} {L:List T} {K:List ByteArray} {xs:List Value} {sub:Nat->List kV} (h:qo lo f w Lv Kv L K xs sub) {x:T} {es:List kV} {c0 c1 c2 c3 c4:Value} (hF:iy w f (.agg #[c0,c1,c2,c3,c4]) x es)
  (hS:qm lo w (kW sub L.length++es++[⟨Lv,L.length,Kv,K.length⟩])) (hO:w'.ownsRow lo eV 5 QJ (L.length+1) (xs++[c0,c1,c2,c3,c4])) (hG:w.grownBy w' Lv.ownBlock) (hN:Av w Lv QJ) :
  qo lo f w' QJ Kv (L++[x]) K (xs++[c0,c1,c2,c3,c4]) (Jb sub L.length es):=by
 have hnd:=hS.nodup;have hlies:=hS.lies;rw [aV,iw] at hnd hlies;have hll:(L++[x]).length=L.length+1:=by simp
 have hmv:∀ b,b ∈ q8 (kW sub L.length++es)->w'.heap[b]?=w.heap[b]?:=fun b hb=>by
  refine hG.block b (hlies b (List.mem_append_left _ hb)).2 fun e2=>?_;exact og hnd hb (by simp [xI,<- e2])
 refine ⟨Nat.le_trans h.low hG.size,?_,eZ h.Ja fun b e=>?_,fun i hi=>?_,h.names,?_⟩
 ·rw [hll];exact hO
 ·have h1:b ∈ xI ⟨Lv,L.length,Kv,K.length⟩:=by simp [xI,e]
  refine hG.block b (hlies b (List.mem_append_right _ h1)).2 fun e2=>?_;have h2:(xI ⟨Lv,L.length,Kv,K.length⟩).Nodup:=(List.nodup_append.1 hnd).2.1;exact og (x:=b) h2 (by simp [<- e2]) (by simp [e])
 ·rw [hll] at hi;by_cases e:i=L.length
  ·subst e;rw [abB h.zm.1];simp only [Jb,if_true];have e2:(L++[x]).getD L.length .nil=x:=by simp [List.getD_eq_getElem?_getD]
   rw [e2];exact hF.move fun b hb=>hmv b (by rw [aV];exact List.mem_append_right _ hb)
  ·have hi':i<L.length:=by omega
   rw [abA h.zm.1 hi'];simp only [Jb,if_neg e];have e2:(L++[x]).getD i .nil=L.getD i .nil:=by simp [List.getD_eq_getElem?_getD,List.getElem?_append_left hi']
   rw [e2];exact (h.kids i hi').move fun b hb=>hmv b (by rw [aV];exact List.mem_append_left _ (pK hi' hb))
 ·rw [hll,YK];exact hS.newL hG.size hN (fun g e=>(hO.lt g e).2) h.low
theorem qo.flat {lo f:Nat} {w:World} {Lv Kv:Value} {L:List T} {K:List ByteArray} {xs:List Value} {sub:Nat->List kV} (h:qo lo f w Lv Kv L K xs sub) (k:Int) (hk0:0<=k) (hk1:k<=100) (hL:L.length<=1759218604442) (hK:K.length<=8796093022208) :
  iy w (f+1) (.agg #[.int .i64 k,.int .i64 0,.string ByteArray.empty,Lv,Kv]) (aX k 0 ByteArray.empty L K) (kW sub L.length++[⟨Lv,L.length,Kv,K.length⟩]):=by
 refine ⟨Lv,Kv,xs,sub,?_,⟨?_,?_,?_,?_,?_,?_,?_⟩,?_,?_,?_,?_,?_⟩
 ·rw [bE,fu,gD]
 ·rw [bE];omega
 ·rw [bE];omega
 ·rw [fu];omega
 ·rw [fu];omega
 ·rw [gD];simp
 ·rw [aI];exact hL
 ·rw [fE];exact hK
 ·rw [aI];exact wh h.zm fun _ _=>Nat.zero_le _
 ·rw [fE,rJ];exact wh h.Ja fun _ _=>Nat.zero_le _
 ·intro i hi;rw [aI] at hi;exact h.kids i hi
 ·intro i hi;rw [fE] at hi;rw [uV,List.getD_eq_getElem?_getD,List.getElem?_eq_getElem hi];exact h.names _ (List.getElem_mem hi)
 ·rw [aI,fE]
theorem DL (w:World) (f:Nat) (k n:Int) (s:ByteArray) (hk0:0<=k) (hk1:k<=100) (hn0:-9223372036854775808<=n) (hn1:n<=9223372036854775807) (hs:s.size<=140737488355328) :
  iy w (f+1) (.agg #[.int .i64 k,.int .i64 n,.string s,.slice none 0 0,.slice none 0 0]) (cK k n s) [⟨.slice none 0 0,0,.slice none 0 0,0⟩]:=by
 unfold cK;refine ⟨.slice none 0 0,.slice none 0 0,[],fun _=>[],?_,⟨?_,?_,?_,?_,?_,?_,?_⟩,World.ownsRow_nil _ _ _ _,?_,?_,?_,?_⟩
 ·rw [bE,fu,gD]
 ·rw [bE];omega
 ·rw [bE];omega
 ·rw [fu];omega
 ·rw [fu];omega
 ·rw [gD];exact hs
 ·rw [aI];simp
 ·rw [fE];simp
 ·rw [fE,rJ];exact World.ownsRow_nil _ _ _ _
 ·intro i hi;rw [aI] at hi;simp at hi
 ·intro i hi;rw [fE] at hi;simp at hi
 ·rw [aI,fE];rfl
theorem Jc (lo:Nat) (w:World):qm lo w [⟨.slice none 0 0,0,.slice none 0 0,0⟩]:=⟨by simp [q8,xI,Value.ownBlock],fun b hb=>by simp [q8,xI,Value.ownBlock] at hb⟩
theorem qm.keep {lo:Nat} {w w':World} {es:List kV} (h:qm lo w es) (hs:w.heap.size<=w'.heap.size):qm lo w' es:=⟨h.nodup,fun b hb=>by have:=h.lies b hb;omega⟩
theorem qm.lower {lo lo':Nat} {w:World} {es:List kV} (h:qm lo w es) (hs:lo'<=lo):qm lo' w es:=⟨h.nodup,fun b hb=>by have:=h.lies b hb;omega⟩
theorem iy.keep {w w':World} {f lo:Nat} {v:Value} {t:T} {es:List kV} (h:iy w f v t es) (hs:qm lo w es) (hb:Below w.heap.size w w'):iy w' f v t es:=h.move fun b hh=>hb.block b (hs.lies b hh).2
theorem O9 {s:Nat->List kV} {g:Nat->Nat}:∀ k,(∀ i,i<k->(s i).length<=g i)->(kW s k).length<=((List.range k).map g).sum
 | 0,_=>by simp [kW]
 | k+1,h=>by
  rw [kW,List.length_append,List.range_succ,List.map_append,List.sum_append];have:=O9 (s:=s) (g:=g) k (fun i hi=>h i (by omega));have:=h k (by omega);simp only [List.map_cons,List.map_nil,List.sum_cons,List.sum_nil];omega
theorem Aw (g:T->Nat) (t:T):∀ k,fI g t k=((List.range k).map fun i=>g (elt t i)).sum
 | 0=>by simp [fI]
 | k+1=>by rw [fI,Aw g t k,List.range_succ,List.map_append,List.sum_append];simp
theorem Jd {g:T->Nat} {t:T} (h:∀ t,1<=g t):∀ k,k<=fI g t k
 | 0=>Nat.zero_le _
 | k+1=>by have:=Jd (g:=g) (t:=t) h k;have:=h (elt t k);rw [fI];omega
theorem Je {g:T->Nat} {t:T} {i:Nat}:∀ {k:Nat},i<k->g (elt t i)<=fI g t k
 | k+1,h=>by
  rw [fI];by_cases e:i=k
  ·subst e;omega
  ·have:=Je (g:=g) (t:=t) (i:=i) (k:=k) (by omega);omega
def wo:Nat->T->Prop
 | 0,_=>True
 | f+1,t=>(gL t=false->nL t=0)/\nK t<=nL t/\∀ i,i<nL t->wo f (elt t i)
def kX:Nat->T->Nat
 | 0,_=>1
 | f+1,t=>1+fI (kX f) t (nL t)
theorem YL (f:Nat) (t:T):1<=kX f t:=by cases f<;>simp only [kX]<;>omega
theorem T9 (g:T->Nat) (t:T):fI g t (nL t)=((zL t).map g).sum:=by
 rw [xG _ _ _ (Nat.le_refl _)];have:(zL t).take (nL t)=zL t:=List.take_length;rw [this]
theorem L9 (f:Nat) (k n:Int) (s:ByteArray) (l:List T) (ks:List ByteArray):kX (f+1) (aX k n s l ks)=1+(l.map (kX f)).sum:=by rw [kX,T9,uT]
theorem Pb {f:Nat} {k n:Int} {s:ByteArray} {l:List T} {ks:List ByteArray} (hk:k=5\/k=6) (hn:ks.length<=l.length) (hl:∀ x ∈ l,wo f x):wo (f+1) (aX k n s l ks):=by
 refine ⟨fun h=>?_,by rw [fE,aI];exact hn,fun i hi=>?_⟩
 ·unfold gL at h;rw [bE] at h;rcases hk with rfl | rfl<;>simp at h
 ·rw [aI] at hi
  have:elt (aX k n s l ks) i=l[i]:=by
   unfold elt;rw [uT,List.getD_eq_getElem?_getD,List.getElem?_eq_getElem hi];rfl
  rw [this];exact hl _ (List.getElem_mem hi)
theorem QK (f:Nat) (k n:Int) (s:ByteArray):wo f (cK k n s):=by
 cases f with
 | zero=>trivial
 | succ f =>
  unfold cK;refine ⟨fun _=>by rw [aI];rfl,by rw [fE,aI];exact Nat.le_refl _,fun i hi=>?_⟩;rw [aI] at hi;simp at hi
theorem Ua (f:Nat) (k n:Int) (s:ByteArray):kX f (cK k n s)=1:=by
 cases f with
 | zero=>rfl
 | succ f=>unfold cK;rw [L9];rfl
theorem FY {f:Nat->Option (T×Nat)} {s:ByteArray} {g:T->Nat} {P:T->Prop} (hf:∀ i t e,i<=s.size->f i=some (t,e)->i<e/\e<=s.size) (hg:∀ i t e,i<=s.size->f i=some (t,e)->g t<=e - i/\P t) (o:Bool):∀ (m i:Nat) (r:(List ByteArray×List T)×Nat),i<=s.size->yL f s o m i=some r->(r.1.2.map g).sum<=r.2 - i/\(∀ x ∈ r.1.2,P x)/\r.1.1.length<=r.1.2.length/\i<r.2/\r.2<=s.size
 | 0,i,r,_,h=>by cases h
 | m+1,i,r,hi,h=>by
  have kC:=zX hf o (m+1) i r hi h;rw [yL] at h;cases hk:oM s o i with
  | none=>rw [hk] at h;cases h
  | some p =>
   rw [hk] at h;simp only [Option.bind_some] at h;have h1:=Ap hi hk;cases hq:f p.2 with
   | none=>rw [hq] at h;cases h
   | some q =>
    rw [hq] at h;simp only [Option.bind_some] at h;have h2:=hf p.2 q.1 q.2 h1.2.1 hq;have h2g:=hg p.2 q.1 q.2 h1.2.1 hq;have h3:=jy s q.2;split at h
    ·rename_i hc;have h4:=eH (s:=s) (i:=sk s q.2) (by omega);cases hr:yL f s o m (sk s q.2+1) with
     | none=>rw [hr] at h;cases h
     | some r' =>
      rw [hr] at h;simp only [Option.map_some,Option.some.injEq] at h;have h5:=FY hf hg o m _ r' (by omega) hr;subst h;refine ⟨?_,?_,?_,kC⟩
      ·simp only [app,List.map_cons,List.sum_cons];omega
      ·intro x hx;simp only [app,List.mem_cons] at hx;rcases hx with rfl | hx
       ·exact h2g.2
       ·exact h5.2.1 x hx
      ·simp only [app];cases o<;>simp<;>omega
    ·split at h
     ·simp only [Option.some.injEq] at h;subst h;refine ⟨?_,?_,?_,kC⟩
      ·simp only [app,List.map_cons,List.map_nil,List.sum_cons,List.sum_nil] at kC ⊢;omega
      ·intro x hx;simp only [app,List.mem_singleton] at hx;subst hx;exact h2g.2
      ·simp only [app];cases o<;>simp
     ·cases h
theorem QL {f:Nat->Option (T×Nat)} {s:ByteArray} {n:Nat} (hf:∀ i t e,i<=s.size->f i=some (t,e)->i<e/\e<=s.size) (hg:∀ i t e,i<=s.size->f i=some (t,e)->kX n t<=e - i/\wo n t) {j:Nat} {t:T} {e:Nat} (hj:j<=s.size) (h:cO f s j=some (t,e)):kX (n+1) t<=e - j/\wo (n+1) t:=by
 have kC:=xH hf hj h
 have kY:∀ k m x,t=cK k m x->kX (n+1) t<=e - j/\wo (n+1) t:=by
  intro k m x hx;subst hx;rw [Ua];exact ⟨by omega,QK _ _ _ _⟩
 have Aq:∀ (o:Bool) (k:Int),(k=5\/k=6)->cB s j<256->(jL f s o (j+1)).map (fun r=>(aX k 0 ByteArray.empty r.1.2 r.1.1,r.2))=some (t,e)->kX (n+1) t<=e - j/\wo (n+1) t:=by
  intro o k hk hc hh;have hj1:=eH hc;have h3:=jy s (j+1);have h5:=lX (s:=s) (i:=j+1) (by omega);cases hb:jL f s o (j+1) with
  | none=>rw [hb] at hh;cases hh
  | some r =>
   rw [hb] at hh;simp only [Option.map_some,Option.some.injEq,Prod.mk.injEq] at hh;obtain ⟨rfl,rfl⟩:=hh;unfold jL at hb;split at hb
   ·simp only [Option.some.injEq] at hb;subst hb;rw [L9];refine ⟨?_,Pb hk (by simp) (by simp)⟩;simp only [List.map_nil,List.sum_nil];omega
   ·have:=FY hf hg o _ _ r h5 hb;rw [L9];refine ⟨?_,Pb hk this.2.2.1 this.2.1⟩;have h6:=this.1;have h7:=this.2.2.2.1;omega
 unfold cO at h;split at h
 ·cases ht:jK s j with
  | none=>rw [ht] at h;cases h
  | some q =>
   rw [ht] at h;simp only [Option.map_some,Option.some.injEq,Prod.mk.injEq] at h;exact kY _ _ _ h.1.symm
 ·split at h
  ·exact Aq _ _ (by omega) (by omega) h
  ·split at h
   ·exact Aq _ _ (by omega) (by omega) h
   ·split at h
    ·cases ht:qY s j with
     | none=>rw [ht] at h;cases h
     | some q =>
      rw [ht] at h;simp only [Option.map_some,Option.some.injEq,Prod.mk.injEq] at h;exact kY _ _ _ h.1.symm
    ·split at h
     ·simp only [Option.some.injEq,Prod.mk.injEq] at h;exact kY _ _ _ h.1.symm
     ·split at h
      ·simp only [Option.some.injEq,Prod.mk.injEq] at h;exact kY _ _ _ h.1.symm
      ·split at h
       ·simp only [Option.some.injEq,Prod.mk.injEq] at h;exact kY _ _ _ h.1.symm
       ·cases h
theorem Ay {s:ByteArray}:∀ (n i:Nat) (t:T) (e:Nat),i<=s.size->dh s n i=some (t,e)->kX n t<=e - i/\wo n t
 | 0,_,_,_,_,h=>by cases h
 | n+1,i,t,e,hi,h=>by
  rw [dh] at h;have:=QL (fun i t e=>iZ n i t e) (fun i t e=>Ay n i t e) (lX hi) h;have h2:=jy s i;exact ⟨by omega,this.2⟩
theorem Ub {w:World}:∀ {f:Nat} {v:Value} {t:T} {es:List kV},iy w f v t es->wo f t->es.length<=kX f t/\∀ e ∈ es,e.n<=kX f t/\e.m<=kX f t:=by
 intro f
 induction f with
 | zero=>intro v t es h;exact h.elim
 | succ f ih =>
  rintro v t es ⟨Lv,Kv,xs,sub,rfl,hf,hl,hk,hc,hn,rfl⟩ ⟨_,hkl,hg⟩;have hge:=Jd (g:=kX f) (t:=t) (fun t=>YL f t) (nL t);rw [kX];refine ⟨?_,fun e he=>?_⟩
  ·have:=O9 (s:=sub) (g:=fun i=>kX f (elt t i)) (nL t) (fun i hi=>(ih (hc i hi) (hg i hi)).1);rw [<- Aw] at this;rw [List.length_append,List.length_singleton];omega
  ·rw [List.mem_append] at he;rcases he with he | he
   ·obtain ⟨i,hi,hh⟩:=FX he;have h1:=(ih (hc i hi) (hg i hi)).2 e hh;have h2:=Je (g:=kX f) (t:=t) hi;omega
   ·simp only [List.mem_singleton] at he;subst he;simp only;omega
theorem xJ {g:T->Nat} {t:T} {i:Nat}:∀ {k:Nat},i<k->g (elt t i)<=qQ g t k
 | k+1,h=>by
  rw [qQ];by_cases e:i=k
  ·subst e;omega
  ·have:=xJ (g:=g) (t:=t) (i:=i) (k:=k) (by omega);omega
theorem Uc {w:World}:∀ {f n:Nat} {v:Value} {t:T} {es:List kV},iy w f v t es->wo f t->eF f t<=n->iy w (n+1) v t es:=by
 intro f
 induction f with
 | zero=>intro n v t es h;exact h.elim
 | succ f ih =>
  rintro n v t es ⟨Lv,Kv,xs,sub,rfl,hf,hl,hk,hc,hn,rfl⟩ ⟨hb,_,hg⟩ hd;refine ⟨Lv,Kv,xs,sub,rfl,hf,hl,hk,fun i hi=>?_,hn,rfl⟩;cases hbx:gL t with
  | false =>
   have:=hb hbx;omega
  | true =>
   rw [eF,if_pos hbx] at hd;have h1:=xJ (g:=eF f) (t:=t) hi;obtain ⟨m,rfl⟩:∃ m,n=m+1:=⟨n - 1,by omega⟩;exact ih (hc i hi) (hg i hi) (by omega)
theorem Pd {k n:Int} {s:ByteArray} {l:List T} {ks:List ByteArray} {i:Nat} (hi:i<nL (aX k n s l ks)):elt (aX k n s l ks) i ∈ l:=by
 unfold elt;unfold nL at hi;rw [uT] at hi ⊢;have e:l.getD i DataW.nil=l[i]:=by simp [List.getD,List.getElem?_eq_getElem hi]
 rw [e];exact List.getElem_mem hi
theorem FZ {f:Nat} {k n:Int} {s:ByteArray} {l:List T} {ks:List ByteArray} (hl:∀ x ∈ l,xE f x):xE (f+1) (aX k n s l ks):=fun _ hi=>hl _ (Pd hi)
theorem Md {f:Nat->Option (T×Nat)} {s:ByteArray} {n:Nat} (hf:∀ i t e,i<=s.size->f i=some (t,e)->i<e/\e<=s.size) (hg:∀ i t e,i<=s.size->f i=some (t,e)->xE n t) {j:Nat} {t:T} {e:Nat} (h:cO f s j=some (t,e)):xE (n+1) t:=by
 have kY:∀ k m x,t=cK k m x->xE (n+1) t:=by
  intro k m x hx;subst hx;exact FZ (by simp)
 have Aq:∀ (o:Bool) (k:Int),cB s j<256->(jL f s o (j+1)).map (fun r=>(aX k 0 ByteArray.empty r.1.2 r.1.1,r.2))=some (t,e)->xE (n+1) t:=by
  intro o k hc hh;have hj1:=eH hc;have h5:=lX (s:=s) (i:=j+1) (by omega);cases hb:jL f s o (j+1) with
  | none=>rw [hb] at hh;cases hh
  | some r =>
   rw [hb] at hh;simp only [Option.map_some,Option.some.injEq,Prod.mk.injEq] at hh;obtain ⟨rfl,rfl⟩:=hh;unfold jL at hb;split at hb
   ·simp only [Option.some.injEq] at hb;subst hb;exact FZ (by simp)
   ·exact FZ (FY (g:=fun _=>0) (P:=xE n) hf (fun i t e hi h=>⟨Nat.zero_le _,hg i t e hi h⟩) o _ _ r h5 hb).2.1
 unfold cO at h;split at h
 ·cases ht:jK s j with
  | none=>rw [ht] at h;cases h
  | some q =>
   rw [ht] at h;simp only [Option.map_some,Option.some.injEq,Prod.mk.injEq] at h;exact kY _ _ _ h.1.symm
 ·split at h
  ·exact Aq _ _ (by omega) h
  ·split at h
   ·exact Aq _ _ (by omega) h
   ·split at h
    ·cases ht:qY s j with
     | none=>rw [ht] at h;cases h
     | some q =>
      rw [ht] at h;simp only [Option.map_some,Option.some.injEq,Prod.mk.injEq] at h;exact kY _ _ _ h.1.symm
    ·split at h
     ·simp only [Option.some.injEq,Prod.mk.injEq] at h;exact kY _ _ _ h.1.symm
     ·split at h
      ·simp only [Option.some.injEq,Prod.mk.injEq] at h;exact kY _ _ _ h.1.symm
      ·split at h
       ·simp only [Option.some.injEq,Prod.mk.injEq] at h;exact kY _ _ _ h.1.symm
       ·cases h
theorem DN {s:ByteArray}:∀ (n i:Nat) (t:T) (e:Nat),i<=s.size->dh s n i=some (t,e)->xE n t
 | 0,_,_,_,_,h=>by cases h
 | n+1,i,t,e,_,h=>by
  rw [dh] at h;exact Md (fun i t e=>iZ n i t e) (fun i t e=>DN n i t e) h
theorem DR:∀ (f m:Nat) (t:T),xE f t->wo f t->wo m t
 | 0,_,_,h,_=>h.elim
 | _+1,0,_,_,_=>trivial
 | f+1,m+1,_,h,ht=>⟨ht.1,ht.2.1,fun i hi=>DR f m _ (h i hi) (ht.2.2 i hi)⟩
theorem Pe {g g':T->Nat} {t:T}:∀ k,(∀ i,i<k->g (elt t i)<=g' (elt t i))->fI g t k<=fI g' t k
 | 0,_=>Nat.le_refl _
 | k+1,h=>by
  have h1:=Pe (g:=g) (g':=g') (t:=t) k (fun i hi=>h i (by omega));have h2:=h k (by omega);simp only [fI];omega
theorem Jf:∀ (f m:Nat) (t:T),xE f t->kX m t<=kX f t
 | 0,_,_,h=>h.elim
 | f+1,0,_,_=>by simp only [kX];omega
 | f+1,m+1,t,h=>by
  have:=Pe (g:=kX m) (g':=kX f) (t:=t) (nL t) (fun i hi=>Jf f m _ (h i hi));simp only [kX];omega
theorem Pf {s:ByteArray} (h:eJ s=0):s.size<=4000/\∃ j,dh s (s.size+1) 0=some (tJ s,j)/\sk s j=s.size/\eF (s.size+1) (tJ s)<=12/\dZ (s.size+1) (tJ s)=false:=by
 have hs:s.size<=4000:=by
  rcases Nat.lt_or_ge 4000 s.size with hl | hl
  ·unfold eJ at h;rw [if_pos hl] at h;omega
  ·exact hl
 refine ⟨hs,?_⟩;cases hf:nZ s with
 | none=>unfold eJ at h;rw [if_neg (by omega),hf] at h;cases h
 | some t =>
  have ht:tJ s=t:=by unfold tJ;rw [if_pos h,hf];rfl
  unfold eJ at h;rw [if_neg (by omega),hf] at h;simp only [Option.map_some,Option.getD_some] at h;unfold nZ at hf;cases hv:dh s (s.size+1) 0 with
  | none=>rw [hv] at hf;cases hf
  | some p =>
   rw [hv] at hf;simp only [Option.bind_some] at hf;split at hf
   ·rename_i hsk;simp only [Option.some.injEq] at hf;subst hf;rw [ht];refine ⟨p.2,rfl,hsk,?_,?_⟩
    ·rcases Nat.lt_or_ge 12 (eF (s.size+1) p.1) with hl | hl
     ·rw [if_pos hl] at h;omega
     ·exact hl
    ·by_cases hd:12<eF (s.size+1) p.1
     ·rw [if_pos hd] at h;omega
     ·rw [if_neg hd] at h;cases htw:dZ (s.size+1) p.1 with
      | false=>rfl
      | true=>rw [htw] at h;simp at h
   ·cases hf
theorem abD {s:ByteArray} (h:eJ s=0) (m:Nat):kX m (tJ s)<=4000/\wo m (tJ s):=by
 obtain ⟨hs,j,hv,hj,_⟩:=Pf h;have h1:=Ay _ _ _ _ (by omega) hv;have h2:=DN _ _ _ _ (by omega) hv;have h3:=Jf _ m _ h2;have h4:=iZ _ _ _ _ (by omega) hv;exact ⟨by omega,DR _ m _ h2 h1.2⟩
def vtL : List (List UInt8) :=
  [[110, 117, 108, 108], [102, 97, 108, 115, 101], [116, 114, 117, 101],
   [45, 52], [45, 51], [45, 50], [45, 49], [48], [49], [50], [51], [52],
   [34, 97, 34], [34, 98, 34], [34, 99, 34], [91, 93],
   [91, 48, 44, 48, 93], [91, 48, 44, 49, 93], [91, 48, 44, 50, 93], [91, 48, 44, 51, 93], [91, 49, 44, 48, 93], [91, 49, 44, 49, 93], [91, 49, 44, 50, 93], [91, 49, 44, 51, 93],
   [91, 50, 44, 48, 93], [91, 50, 44, 49, 93], [91, 50, 44, 50, 93], [91, 50, 44, 51, 93], [91, 51, 44, 48, 93], [91, 51, 44, 49, 93], [91, 51, 44, 50, 93], [91, 51, 44, 51, 93],
   [123, 34, 98, 34, 58, 48, 125], [123, 34, 98, 34, 58, 49, 125], [123, 34, 98, 34, 58, 50, 125], [123, 34, 98, 34, 58, 51, 125]]
def vt (i:Nat):ByteArray:=aY (vtL.getD i [])
def nT (n:Int):T:=cK 3 n ByteArray.empty
def LD (a b:Int):T:=aX 5 0 ByteArray.empty [nT a,nT b] []
def obT (a:Int):T:=aX 6 0 ByteArray.empty [nT a] [⟨#[98]⟩]
def tvL : List T :=
  [cK 1 0 ByteArray.empty, cK 2 0 ByteArray.empty, cK 2 1 ByteArray.empty,
   nT (-4), nT (-3), nT (-2), nT (-1), nT 0, nT 1, nT 2, nT 3, nT 4,
   cK 4 0 ⟨#[97]⟩, cK 4 0 ⟨#[98]⟩, cK 4 0 ⟨#[99]⟩, aX 5 0 ByteArray.empty [] [],
   LD 0 0, LD 0 1, LD 0 2, LD 0 3, LD 1 0, LD 1 1, LD 1 2, LD 1 3, LD 2 0, LD 2 1, LD 2 2, LD 2 3, LD 3 0, LD 3 1, LD 3 2, LD 3 3,
   obT 0, obT 1, obT 2, obT 3]
def tv (i:Nat):T:=tvL.getD i (cK 0 0 ByteArray.empty)
theorem YM:((List.range 36).all fun i=>decide ((vt i).size<=10))=true:=by kernel_rfl
theorem lY {i:Nat} (h:i<36):(vt i).size<=10:=of_decide_eq_true (List.all_eq_true.1 YM i (List.mem_range.2 h))
def IsV (s:ByteArray):Prop:=∃ i,i<36/\s=vt i
theorem Ud (n:Nat) (h:n<10):Lib.decDigits n=[(n+48).toUInt8]:=by
 rw [Lib.decDigits.eq_def,dif_pos h]
 first | rfl | (simp [Nat.add_comm])
theorem pO (n:Nat) (h:n<10):Lib.itoa (n:Int)=[(n+48).toUInt8]:=by
 unfold Lib.itoa;rw [if_neg (by omega),Int.toNat_natCast,Ud n h]
theorem itoa_neg (n:Nat) (h0:0<n) (h:n<10):Lib.itoa (-(n:Int))=[45,(n+48).toUInt8]:=by
 unfold Lib.itoa;rw [if_pos (by omega),Int.natAbs_neg,Int.natAbs_natCast,Ud n h]
theorem l9 (d:Int):IsV (aY (Lib.itoa (d % 9 - 4))):=by
 have h:d % 9=0\/d % 9=1\/d % 9=2\/d % 9=3\/d % 9=4\/d % 9=5\/d % 9=6\/d % 9=7\/d % 9=8:=by omega
 rcases h with h | h | h | h | h | h | h | h | h<;>rw [h]
 ·exact ⟨3,by omega,by show aY (Lib.itoa (-((4:Nat):Int)))=_;rw [itoa_neg 4 (by omega) (by omega)];rfl⟩
 ·exact ⟨4,by omega,by show aY (Lib.itoa (-((3:Nat):Int)))=_;rw [itoa_neg 3 (by omega) (by omega)];rfl⟩
 ·exact ⟨5,by omega,by show aY (Lib.itoa (-((2:Nat):Int)))=_;rw [itoa_neg 2 (by omega) (by omega)];rfl⟩
 ·exact ⟨6,by omega,by show aY (Lib.itoa (-((1:Nat):Int)))=_;rw [itoa_neg 1 (by omega) (by omega)];rfl⟩
 ·exact ⟨7,by omega,by show aY (Lib.itoa ((0:Nat):Int))=_;rw [pO 0 (by omega)];rfl⟩
 ·exact ⟨8,by omega,by show aY (Lib.itoa ((1:Nat):Int))=_;rw [pO 1 (by omega)];rfl⟩
 ·exact ⟨9,by omega,by show aY (Lib.itoa ((2:Nat):Int))=_;rw [pO 2 (by omega)];rfl⟩
 ·exact ⟨10,by omega,by show aY (Lib.itoa ((3:Nat):Int))=_;rw [pO 3 (by omega)];rfl⟩
 ·exact ⟨11,by omega,by show aY (Lib.itoa ((4:Nat):Int))=_;rw [pO 4 (by omega)];rfl⟩
end Go.Proofs.YtknakfpciccoaabGreatDoor
