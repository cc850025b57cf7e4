import Derived.Test.YtknakfpciccoaaaGreatDoorZC3
import Derived.Test.YtknakfpciccoaaaGreatDoorZC4
import Derived.Test.YtknakfpciccoaaaGreatDoorZC2
import Derived.Lib.ItoaNum
import Derived.KernelRfl
/- Values whose lists are the call's own: each list lies in a block of its own. -/
set_option maxRecDepth 100000
namespace Go.Proofs.YtknakfpciccoaaaGreatDoor
open Go.RowKit
abbrev eV:TypeId:=25
abbrev eS:TypeId:=9
structure kS where
 l:Value
 n:Nat
 k:Value
 m:Nat
def xW (e:kS):List Nat:=e.l.ownBlock.toList++e.k.ownBlock.toList
def rC (es:List kS):List Nat:=es.flatMap xW
theorem aU (a b:List kS):rC (a++b)=rC a++rC b:=by simp [rC]
theorem gY (e:kS):rC [e]=xW e:=by simp [rC]
def kT (sub:Nat->List kS):Nat->List kS
 | 0=>[]
 | k+1=>kT sub k++sub k
theorem Bf {s s':Nat->List kS}:∀ k,(∀ i,i<k->s i=s' i)->kT s k=kT s' k
 | 0,_=>rfl
 | k+1,h=>by rw [kT,kT,Bf k (fun i hi=>h i (by omega)),h k (by omega)]
theorem pE {s:Nat->List kS} {b:Nat}:∀ {k i:Nat},i<k->b ∈ rC (s i)->b ∈ rC (kT s k)
 | k+1,i,hi,hb=>by
  rw [kT,aU,List.mem_append];by_cases e:i=k
  ·subst e;exact .inr hb
  ·exact .inl (pE (by omega) hb)
structure ql (lo:Nat) (w:World) (es:List kS):Prop where
 nodup:(rC es).Nodup
 lies:∀ b ∈ rC es,lo<=b/\b<w.heap.size
def cx (xs:List Value) (j:Nat):Value:=xs[j]?.getD (.int .i64 0)
def fv (xs:List Value) (i:Nat):Value:=.agg #[cx xs (i*5),cx xs (i*5+1),cx xs (i*5+2),cx xs (i*5+3),cx xs (i*5+4)]
def gB (ks:List ByteArray):List Value:=ks.map Value.string
def gZ (w:World):Nat->Value->T->List kS->Prop
 | 0,_,_,_=>False
 | f+1,v,t,es=>∃ (Lv Kv:Value) (xs:List Value) (sub:Nat->List kS),
   v=.agg #[.int .i64 (aj t),.int .i64 (av t),.string (ay t),Lv,Kv]/\zI t /\
   w.ownsRow 0 eV 5 Lv (nL t) xs/\w.ownsRow 0 eS 1 Kv (nK t) (gB (jZ t)) /\
   (∀ i,i<nL t->gZ w f (fv xs i) (elt t i) (sub i))/\(∀ i,i<nK t->(bO t i).size<=140737488355328) /\
   es=kT sub (nL t)++[⟨Lv,nL t,Kv,nK t⟩]
theorem eH {w w':World} {lo:Nat} {e:TypeId} {size n:Nat} {v:Value} {xs:List Value} (h:w.ownsRow lo e size v n xs) (hb:∀ b,v.ownBlock=some b->w'.heap[b]?=w.heap[b]?):w'.ownsRow lo e size v n xs:=by
 refine ⟨h.1,?_⟩;rcases h.2 with hn | ⟨g,cap,cur,rfl,hb0,hg,rest⟩
 ·exact .inl hn
 ·exact .inr ⟨g,cap,cur,rfl,hb0,(hb g rfl).trans hg,rest⟩
theorem wI {w:World} {lo lo':Nat} {e:TypeId} {size n:Nat} {v:Value} {xs:List Value} (h:w.ownsRow lo e size v n xs) (hl:∀ b,v.ownBlock=some b->lo'<=b):w.ownsRow lo' e size v n xs:=by
 refine ⟨h.1,?_⟩;rcases h.2 with hn | ⟨g,cap,cur,rfl,hb0,rest⟩
 ·exact .inl hn
 ·exact .inr ⟨g,cap,cur,rfl,hl g rfl,rest⟩
theorem gZ.move {w w':World}:∀ {f:Nat} {v:Value} {t:T} {es:List kS},(∀ b ∈ rC es,w'.heap[b]?=w.heap[b]?)->gZ w f v t es->gZ w' f v t es:=by
 intro f
 induction f with
 | zero=>intro v t es _ h;exact h
 | succ f ih =>
  rintro v t es hb ⟨Lv,Kv,xs,sub,rfl,hf,hl,hk,hc,hn,rfl⟩;have hx:∀ b,b ∈ xW ⟨Lv,nL t,Kv,nK t⟩->w'.heap[b]?=w.heap[b]?:=fun b h=>hb b (by rw [aU,gY];simp [h]);refine ⟨Lv,Kv,xs,sub,rfl,hf,eH hl fun b e=>hx b ?_,eH hk fun b e=>hx b ?_,fun i hi=>ih (fun b h=>hb b ?_) (hc i hi),hn,rfl⟩
  ·simp [xW,e]
  ·simp [xW,e]
  ·rw [aU];exact List.mem_append_left _ (pE hi h)
theorem fq {w:World} {lo:Nat} {e:TypeId} {size n:Nat} {v:Value} {xs:List Value} (h:w.ownsRow lo e size v n xs):∃ A c,v=.slice A n c:=by
 rcases h.2 with ⟨rfl,rfl⟩ | ⟨g,cap,cur,rfl,_⟩
 ·exact ⟨none,0,rfl⟩
 ·exact ⟨_,cap,rfl⟩
theorem wJ {w:World} {lo:Nat} {e:TypeId} {size n:Nat} {v:Value} {xs:List Value} (h:w.ownsRow lo e size v n xs) (h0:0<n):∃ g cap,v=.slice (some ⟨g,0,none⟩) n cap/\g<w.heap.size/\lo<=g/\n<=cap/\(∀ j,j<n*size->w.cell? ⟨g,j,none⟩=some (cx xs j))/\∀ j,w.frozen? ⟨g,j,none⟩=false:=by
 rcases h.2 with ⟨rfl,rfl⟩ | ⟨g,cap,cur,rfl,hlo,hg,hnc,_⟩
 ·omega
 ·refine ⟨g,cap,rfl,(h.lt g rfl).2,hlo,hnc,fun j hj=>?_,fun j=>h.frozenAt j⟩;rw [h.cellAt j hj];have:j<xs.length:=by rw [h.1];exact hj
  simp [cx,this]
theorem gZ.at {w:World}:∀ {f:Nat} {v:Value} {t:T} {es:List kS},gZ w f v t es->At w f v t:=by
 intro f
 induction f with
 | zero=>intro v t es h;exact h
 | succ f ih =>
  rintro v t es ⟨Lv,Kv,xs,sub,rfl,hf,hl,hk,hc,hn,rfl⟩;obtain ⟨A,c,rfl⟩:=fq hl;obtain ⟨C,d,rfl⟩:=fq hk;refine ⟨A,C,c,d,rfl,hf,fun i hi=>?_,fun i hi=>?_⟩
  ·obtain ⟨g,cap,e,hg,_,_,hcell,_⟩:=wJ hl (by omega);cases e;refine ⟨g,0,_,_,_,_,_,rfl,hg,?_,?_,?_,?_,?_,ih (hc i hi)⟩
   ·rw [Nat.zero_add];exact hcell _ (by omega)
   ·rw [Nat.zero_add];exact hcell _ (by omega)
   ·rw [Nat.zero_add];exact hcell _ (by omega)
   ·rw [Nat.zero_add];exact hcell _ (by omega)
   ·rw [Nat.zero_add];exact hcell _ (by omega)
  ·obtain ⟨g,cap,e,hg,_,_,hcell,_⟩:=wJ hk (by omega);cases e;refine ⟨g,0,rfl,hg,hn i hi,?_⟩;rw [Nat.zero_add,hcell i (by omega)];have hi':i<(jZ t).length:=hi;simp [cx,gB,bO,List.getD_eq_getElem?_getD,hi']
def ag8 (w:World) (v:Value) (n:Nat):Prop:=∃ xs,w.ownsRow 0 eV 5 v n xs
def ag9 (w:World) (v:Value) (n:Nat):Prop:=∃ xs,w.ownsRow 0 eS 1 v n xs
def aek (w:World) (es:List kS):Prop:=∀ e ∈ es,ag8 w e.l e.n/\ag9 w e.k e.m
theorem Gh {s:Nat->List kS} {e:kS}:∀ {k:Nat},e ∈ kT s k->∃ i,i<k/\e ∈ s i
 | 0,h=>by cases h
 | k+1,h=>by
  rw [kT,List.mem_append] at h;rcases h with h | h
  ·obtain ⟨i,hi,hh⟩:=Gh h;exact ⟨i,by omega,hh⟩
  ·exact ⟨k,by omega,h⟩
theorem gZ.rows {w:World}:∀ {f:Nat} {v:Value} {t:T} {es:List kS},gZ w f v t es->aek w es:=by
 intro f
 induction f with
 | zero=>intro v t es h;exact h.elim
 | succ f ih =>
  rintro v t es ⟨Lv,Kv,xs,sub,rfl,hf,hl,hk,hc,hn,rfl⟩ e he;rw [List.mem_append] at he;rcases he with he | he
  ·obtain ⟨i,hi,hh⟩:=Gh he;exact ih (hc i hi) e hh
  ·simp only [List.mem_singleton] at he;subst he;exact ⟨⟨_,hl⟩,⟨_,hk⟩⟩
theorem ql.child {lo:Nat} {w w':World} {A es:List kS} {e:kS} (h:ql lo w (A++[e])) (hs:w.heap.size<=w'.heap.size) (hc:ql w.heap.size w' es) (hlo:lo<=w.heap.size):ql lo w' (A++es++[e]):=by
 have h1:=h.nodup;have h2:=h.lies;have h3:=hc.nodup;have h4:=hc.lies;rw [aU] at h1 h2;refine ⟨?_,?_⟩
 ·rw [aU,aU];rw [List.nodup_append] at h1 ⊢;obtain ⟨a1,a2,a3⟩:=h1;refine ⟨?_,a2,?_⟩
  ·rw [List.nodup_append];refine ⟨a1,h3,fun a ha b hb=>?_⟩;have:=h2 a (List.mem_append_left _ ha);have:=h4 b hb;omega
  ·intro a ha b hb;rw [List.mem_append] at ha;rcases ha with ha | ha
   ·exact a3 a ha b hb
   ·have:=h2 b (List.mem_append_right _ hb);have:=h4 a ha;omega
 ·intro b hb;rw [aU,aU,List.mem_append,List.mem_append] at hb;rcases hb with (hb | hb) | hb
  ·have:=h2 b (List.mem_append_left _ hb);omega
  ·have:=h4 b hb;omega
  ·have:=h2 b (List.mem_append_right _ hb);omega
def Bg (w:World) (v v':Value):Prop:=v'.ownBlock=v.ownBlock\/∀ g,v'.ownBlock=some g->w.heap.size<=g
theorem ql.newL {lo:Nat} {w w':World} {A:List kS} {L L' K:Value} {n n' m:Nat} (h:ql lo w (A++[⟨L,n,K,m⟩])) (hs:w.heap.size<=w'.heap.size) (hn:Bg w L L') (hl:∀ g,L'.ownBlock=some g->g<w'.heap.size) (hlo:lo<=w.heap.size):ql lo w' (A++[⟨L',n',K,m⟩]):=by
 have h1:=h.nodup;have h2:=h.lies;rw [aU,gY] at h1 h2
 have h3:∀ g,L'.ownBlock=some g->L.ownBlock=some g\/w.heap.size<=g:=by
  intro g hg;rcases hn with e | e
  ·exact .inl (e ▸ hg)
  ·exact .inr (e g hg)
 refine ⟨?_,?_⟩
 ·rw [aU,gY];simp only [xW] at h1 h2 ⊢;rw [List.nodup_append,List.nodup_append] at h1 ⊢;obtain ⟨a1,⟨b1,b2,b3⟩,a3⟩:=h1;refine ⟨a1,⟨by cases L'.ownBlock<;>simp,b2,fun a ha b hb=>?_⟩,fun a ha b hb=>?_⟩
  ·rcases h3 a (by simpa using ha) with e | e
   ·exact b3 a (by simp [e]) b hb
   ·have:=h2 b (by simp only [List.mem_append];exact .inr (.inr hb));omega
  ·rw [List.mem_append] at hb;rcases hb with hb | hb
   ·rcases h3 b (by simpa using hb) with e | e
    ·exact a3 a ha b (by simp [e])
    ·have:=h2 a (by simp only [List.mem_append];exact .inl ha);omega
   ·exact a3 a ha b (by simp only [List.mem_append];exact .inr hb)
 ·intro b hb;rw [aU,gY] at hb;simp only [xW,List.mem_append] at hb h2;rcases hb with hb | hb | hb
  ·have:=h2 b (.inl hb);omega
  ·have hb':L'.ownBlock=some b:=by simpa using hb
   have:=hl b hb';rcases h3 b hb' with e | e
   ·have:=h2 b (.inr (.inl (by simp [e])));omega
   ·omega
  ·have:=h2 b (.inr (.inr hb));omega
theorem ql.aha {lo:Nat} {w w':World} {A:List kS} {L K K':Value} {n m m':Nat} (h:ql lo w (A++[⟨L,n,K,m⟩])) (hs:w.heap.size<=w'.heap.size) (hn:Bg w K K') (hl:∀ g,K'.ownBlock=some g->g<w'.heap.size) (hlo:lo<=w.heap.size):ql lo w' (A++[⟨L,n,K',m'⟩]):=by
 have h1:=h.nodup;have h2:=h.lies;rw [aU,gY] at h1 h2
 have h3:∀ g,K'.ownBlock=some g->K.ownBlock=some g\/w.heap.size<=g:=by
  intro g hg;rcases hn with e | e
  ·exact .inl (e ▸ hg)
  ·exact .inr (e g hg)
 refine ⟨?_,?_⟩
 ·rw [aU,gY];simp only [xW] at h1 h2 ⊢;rw [List.nodup_append,List.nodup_append] at h1 ⊢;obtain ⟨a1,⟨b1,b2,b3⟩,a3⟩:=h1;refine ⟨a1,⟨b1,by cases K'.ownBlock<;>simp,fun a ha b hb=>?_⟩,fun a ha b hb=>?_⟩
  ·rcases h3 b (by simpa using hb) with e | e
   ·exact b3 a ha b (by simp [e])
   ·have:=h2 a (by simp only [List.mem_append];exact .inr (.inl ha));omega
  ·rw [List.mem_append] at hb;rcases hb with hb | hb
   ·exact a3 a ha b (by simp only [List.mem_append];exact .inl hb)
   ·rcases h3 b (by simpa using hb) with e | e
    ·exact a3 a ha b (by simp [e])
    ·have:=h2 a (by simp only [List.mem_append];exact .inl ha);omega
 ·intro b hb;rw [aU,gY] at hb;simp only [xW,List.mem_append] at hb h2;rcases hb with hb | hb | hb
  ·have:=h2 b (.inl hb);omega
  ·have:=h2 b (.inr (.inl hb));omega
  ·have hb':K'.ownBlock=some b:=by simpa using hb
   have:=hl b hb';rcases h3 b hb' with e | e
   ·have:=h2 b (.inr (.inr (by simp [e])));omega
   ·omega
structure qm (lo f:Nat) (w:World) (Lv Kv:Value) (L:List T) (K:List ByteArray) (xs:List Value) (sub:Nat->List kS):Prop where
 low:lo<=w.heap.size
 zK:w.ownsRow lo eV 5 Lv L.length xs
 Jq:w.ownsRow lo eS 1 Kv K.length (gB K)
 kids:∀ i,i<L.length->gZ w f (fv xs i) (L.getD i .nil) (sub i)
 names:∀ s ∈ K,s.size<=140737488355328
 sep:ql lo w (kT sub L.length++[⟨Lv,L.length,Kv,K.length⟩])
theorem qm.start (lo f:Nat) (w:World) (h:lo<=w.heap.size):qm lo f w (.slice none 0 0) (.slice none 0 0) [] [] [] (fun _=>[]) :=
 ⟨h,World.ownsRow_nil _ _ _ _,World.ownsRow_nil _ _ _ _,(fun i hi=>by simp at hi),(fun s hs=>by cases hs),⟨by simp [rC,xW,kT,Value.ownBlock],fun b hb=>by simp [rC,xW,kT,Value.ownBlock] at hb⟩⟩
theorem qm.move {lo f:Nat} {w w':World} {Lv Kv:Value} {L:List T} {K:List ByteArray} {xs:List Value} {sub:Nat->List kS} (h:qm lo f w Lv Kv L K xs sub) (hs:w.heap.size<=w'.heap.size) (hb:∀ b,lo<=b->b<w.heap.size->w'.heap[b]?=w.heap[b]?):qm lo f w' Lv Kv L K xs sub:=by
 have hx:∀ b ∈ rC (kT sub L.length++[⟨Lv,L.length,Kv,K.length⟩]),w'.heap[b]?=w.heap[b]?:=fun b hh=>by
  have:=h.sep.lies b hh;exact hb b this.1 this.2
 have hy:∀ b,b ∈ xW ⟨Lv,L.length,Kv,K.length⟩->w'.heap[b]?=w.heap[b]?:=fun b hh=>hx b (by rw [aU,gY];exact List.mem_append_right _ hh);refine ⟨Nat.le_trans h.low hs,eH h.zK (fun b e=>hy b (by simp [xW,e])),eH h.Jq (fun b e=>hy b (by simp [xW,e])),(fun i hi=>(h.kids i hi).move fun b hh=>hx b (by rw [aU];exact List.mem_append_left _ (pE hi hh))),h.names,⟨h.sep.nodup,fun b hh=>?_⟩⟩;have:=h.sep.lies b hh;omega
theorem qm.set {lo f:Nat} {w:World} {Lv Kv:Value} {L:List T} {K:List ByteArray} {xs:List Value} {sub:Nat->List kS} (h:qm lo f w Lv Kv L K xs sub) (c o:Nat) (u:Value) (hc:c<lo):qm lo f (w.setCell ⟨c,o,none⟩ u) Lv Kv L K xs sub :=
 h.move (by simp [World.setCell]) fun b h1 _=>Below.heap_setCell _ _ _ _ (by simpa using (by omega:b≠c))
theorem nP {a b:List Nat} {x:Nat} (h:(a++b).Nodup) (ha:x ∈ a) (hb:x ∈ b):False:=(List.nodup_append.1 h).2.2 x ha x hb rfl
theorem qm.ahb {lo f:Nat} {w w':World} {Lv Kv Rf:Value} {L:List T} {K:List ByteArray} {xs:List Value} {sub:Nat->List kS} (h:qm lo f w Lv Kv L K xs sub) (k:ByteArray) (hk:k.size<=140737488355328)
  (hO:w'.ownsRow lo eS 1 Rf (K.length+1) (gB K++[.string k])) (hG:w.grownBy w' Kv.ownBlock) (hN:Bg w Kv Rf):qm lo f w' Lv Rf L (K++[k]) xs sub:=by
 have hnd:=h.sep.nodup;have hlies:=h.sep.lies;rw [aU,gY] at hnd hlies;have hkl:(K++[k]).length=K.length+1:=by simp
 refine ⟨Nat.le_trans h.low hG.size,eH h.zK fun b e=>?_,?_,fun i hi=>(h.kids i hi).move fun b hh=>?_,?_,?_⟩
 ·have h1:b ∈ xW ⟨Lv,L.length,Kv,K.length⟩:=by simp [xW,e]
  refine hG.block b (hlies b (List.mem_append_right _ h1)).2 fun e2=>?_;have h2:(xW ⟨Lv,L.length,Kv,K.length⟩).Nodup:=(List.nodup_append.1 hnd).2.1;exact nP (x:=b) h2 (by simp [e]) (by simp [<- e2])
 ·rw [hkl];have e:gB (K++[k])=gB K++[.string k]:=by simp [gB]
  rw [e];exact hO
 ·have h1:=pE hi hh;refine hG.block b (hlies b (List.mem_append_left _ h1)).2 fun e2=>?_;exact nP hnd h1 (by simp [xW,<- e2])
 ·intro s hs;rw [List.mem_append] at hs;rcases hs with hs | hs
  ·exact h.names s hs
  ·simp only [List.mem_singleton] at hs;subst hs;exact hk
 ·rw [hkl];exact h.sep.aha hG.size hN (fun g e=>(hO.lt g e).2) h.low
def Jr (sub:Nat->List kS) (n:Nat) (es:List kS) (i:Nat):List kS:=if i=n then es else sub i
theorem YJ (sub:Nat->List kS) (n:Nat) (es:List kS):kT (Jr sub n es) (n+1)=kT sub n++es:=by
 rw [kT,Bf (s':=sub) n (fun i hi=>by simp [Jr,show i≠n by omega])];simp [Jr]
theorem abu {xs ys:List Value} {n i:Nat} (hl:xs.length=n*5) (hi:i<n):fv (xs++ys) i=fv xs i:=by
 have h:∀ j,j<xs.length->cx (xs++ys) j=cx xs j:=fun j hj=>by simp [cx,List.getElem?_append_left hj]
 unfold fv;rw [h _ (by omega),h _ (by omega),h _ (by omega),h _ (by omega),h _ (by omega)]
theorem abv {xs:List Value} {n:Nat} {c0 c1 c2 c3 c4:Value} (hl:xs.length=n*5):fv (xs++[c0,c1,c2,c3,c4]) n=.agg #[c0,c1,c2,c3,c4]:=by
 have h:∀ j,cx (xs++[c0,c1,c2,c3,c4]) (n*5+j)=cx [c0,c1,c2,c3,c4] j:=fun j=>by
  unfold cx;rw [List.getElem?_append_right (by omega),hl,Nat.add_sub_cancel_left]
 unfold fv;have h0:=h 0;rw [Nat.add_zero] at h0;rw [h0,h 1,h 2,h 3,h 4];rfl
theorem qm.ahc {lo f:Nat} {w w':World} {Lv Rh Kv:Value} {L:List T} {K:List ByteArray} {xs:List Value} {sub:Nat->List kS} (h:qm lo f w Lv Kv L K xs sub) {x:T} {es:List kS} {c0 c1 c2 c3 c4:Value} (hF:gZ w f (.agg #[c0,c1,c2,c3,c4]) x es)
  (hS:ql lo w (kT sub L.length++es++[⟨Lv,L.length,Kv,K.length⟩])) (hO:w'.ownsRow lo eV 5 Rh (L.length+1) (xs++[c0,c1,c2,c3,c4])) (hG:w.grownBy w' Lv.ownBlock) (hN:Bg w Lv Rh) :
  qm lo f w' Rh Kv (L++[x]) K (xs++[c0,c1,c2,c3,c4]) (Jr sub L.length es):=by
 have hnd:=hS.nodup;have hlies:=hS.lies;rw [aU,gY] at hnd hlies;have hll:(L++[x]).length=L.length+1:=by simp
 have hmv:∀ b,b ∈ rC (kT sub L.length++es)->w'.heap[b]?=w.heap[b]?:=fun b hb=>by
  refine hG.block b (hlies b (List.mem_append_left _ hb)).2 fun e2=>?_;exact nP hnd hb (by simp [xW,<- e2])
 refine ⟨Nat.le_trans h.low hG.size,?_,eH h.Jq fun b e=>?_,fun i hi=>?_,h.names,?_⟩
 ·rw [hll];exact hO
 ·have h1:b ∈ xW ⟨Lv,L.length,Kv,K.length⟩:=by simp [xW,e]
  refine hG.block b (hlies b (List.mem_append_right _ h1)).2 fun e2=>?_;have h2:(xW ⟨Lv,L.length,Kv,K.length⟩).Nodup:=(List.nodup_append.1 hnd).2.1;exact nP (x:=b) h2 (by simp [<- e2]) (by simp [e])
 ·rw [hll] at hi;by_cases e:i=L.length
  ·subst e;rw [abv h.zK.1];simp only [Jr,if_true];have e2:(L++[x]).getD L.length .nil=x:=by simp [List.getD_eq_getElem?_getD]
   rw [e2];exact hF.move fun b hb=>hmv b (by rw [aU];exact List.mem_append_right _ hb)
  ·have hi':i<L.length:=by omega
   rw [abu h.zK.1 hi'];simp only [Jr,if_neg e];have e2:(L++[x]).getD i .nil=L.getD i .nil:=by simp [List.getD_eq_getElem?_getD,List.getElem?_append_left hi']
   rw [e2];exact (h.kids i hi').move fun b hb=>hmv b (by rw [aU];exact List.mem_append_left _ (pE hi' hb))
 ·rw [hll,YJ];exact hS.newL hG.size hN (fun g e=>(hO.lt g e).2) h.low
theorem qm.flat {lo f:Nat} {w:World} {Lv Kv:Value} {L:List T} {K:List ByteArray} {xs:List Value} {sub:Nat->List kS} (h:qm lo f w Lv Kv L K xs sub) (k:Int) (hk0:0<=k) (hk1:k<=100) (hL:L.length<=1759218604442) (hK:K.length<=8796093022208) :
  gZ w (f+1) (.agg #[.int .i64 k,.int .i64 0,.string ByteArray.empty,Lv,Kv]) (aO k 0 ByteArray.empty L K) (kT sub L.length++[⟨Lv,L.length,Kv,K.length⟩]):=by
 refine ⟨Lv,Kv,xs,sub,?_,⟨?_,?_,?_,?_,?_,?_,?_⟩,?_,?_,?_,?_,?_⟩
 ·rw [bg,eP,gu]
 ·rw [bg];omega
 ·rw [bg];omega
 ·rw [eP];omega
 ·rw [eP];omega
 ·rw [gu];simp
 ·rw [aN];exact hL
 ·rw [eY];exact hK
 ·rw [aN];exact wI h.zK fun _ _=>Nat.zero_le _
 ·rw [eY,qg];exact wI h.Jq fun _ _=>Nat.zero_le _
 ·intro i hi;rw [aN] at hi;exact h.kids i hi
 ·intro i hi;rw [eY] at hi;rw [rY,List.getD_eq_getElem?_getD,List.getElem?_eq_getElem hi];exact h.names _ (List.getElem_mem hi)
 ·rw [aN,eY]
theorem Ee (w:World) (f:Nat) (k n:Int) (s:ByteArray) (hk0:0<=k) (hk1:k<=100) (hn0:-9223372036854775808<=n) (hn1:n<=9223372036854775807) (hs:s.size<=140737488355328) :
  gZ w (f+1) (.agg #[.int .i64 k,.int .i64 n,.string s,.slice none 0 0,.slice none 0 0]) (dh k n s) [⟨.slice none 0 0,0,.slice none 0 0,0⟩]:=by
 unfold dh;refine ⟨.slice none 0 0,.slice none 0 0,[],fun _=>[],?_,⟨?_,?_,?_,?_,?_,?_,?_⟩,World.ownsRow_nil _ _ _ _,?_,?_,?_,?_⟩
 ·rw [bg,eP,gu]
 ·rw [bg];omega
 ·rw [bg];omega
 ·rw [eP];omega
 ·rw [eP];omega
 ·rw [gu];exact hs
 ·rw [aN];simp
 ·rw [eY];simp
 ·rw [eY,qg];exact World.ownsRow_nil _ _ _ _
 ·intro i hi;rw [aN] at hi;simp at hi
 ·intro i hi;rw [eY] at hi;simp at hi
 ·rw [aN,eY];rfl
theorem Js (lo:Nat) (w:World):ql lo w [⟨.slice none 0 0,0,.slice none 0 0,0⟩]:=⟨by simp [rC,xW,Value.ownBlock],fun b hb=>by simp [rC,xW,Value.ownBlock] at hb⟩
theorem ql.keep {lo:Nat} {w w':World} {es:List kS} (h:ql lo w es) (hs:w.heap.size<=w'.heap.size):ql lo w' es:=⟨h.nodup,fun b hb=>by have:=h.lies b hb;omega⟩
theorem ql.lower {lo lo':Nat} {w:World} {es:List kS} (h:ql lo w es) (hs:lo'<=lo):ql lo' w es:=⟨h.nodup,fun b hb=>by have:=h.lies b hb;omega⟩
theorem gZ.keep {w w':World} {f lo:Nat} {v:Value} {t:T} {es:List kS} (h:gZ w f v t es) (hs:ql lo w es) (hb:Below w.heap.size w w'):gZ w' f v t es:=h.move fun b hh=>hb.block b (hs.lies b hh).2
theorem PN {s:Nat->List kS} {g:Nat->Nat}:∀ k,(∀ i,i<k->(s i).length<=g i)->(kT s k).length<=((List.range k).map g).sum
 | 0,_=>by simp [kT]
 | k+1,h=>by
  rw [kT,List.length_append,List.range_succ,List.map_append,List.sum_append];have:=PN (s:=s) (g:=g) k (fun i hi=>h i (by omega));have:=h k (by omega);simp only [List.map_cons,List.map_nil,List.sum_cons,List.sum_nil];omega
theorem Bh (g:T->Nat) (t:T):∀ k,fG g t k=((List.range k).map fun i=>g (elt t i)).sum
 | 0=>by simp [fG]
 | k+1=>by rw [fG,Bh g t k,List.range_succ,List.map_append,List.sum_append];simp
theorem Jt {g:T->Nat} {t:T} (h:∀ t,1<=g t):∀ k,k<=fG g t k
 | 0=>Nat.zero_le _
 | k+1=>by have:=Jt (g:=g) (t:=t) h k;have:=h (elt t k);rw [fG];omega
theorem Ju {g:T->Nat} {t:T} {i:Nat}:∀ {k:Nat},i<k->g (elt t i)<=fG g t k
 | k+1,h=>by
  rw [fG];by_cases e:i=k
  ·subst e;omega
  ·have:=Ju (g:=g) (t:=t) (i:=i) (k:=k) (by omega);omega
def wK:Nat->T->Prop
 | 0,_=>True
 | f+1,t=>(gL t=false->nL t=0)/\nK t<=nL t/\∀ i,i<nL t->wK f (elt t i)
def kU:Nat->T->Nat
 | 0,_=>1
 | f+1,t=>1+fG (kU f) t (nL t)
theorem YK (f:Nat) (t:T):1<=kU f t:=by cases f<;>simp only [kU]<;>omega
theorem Ux (g:T->Nat) (t:T):fG g t (nL t)=((lH t).map g).sum:=by
 rw [xU _ _ _ (Nat.le_refl _)];have:(lH t).take (nL t)=lH t:=List.take_length;rw [this]
theorem MK (f:Nat) (k n:Int) (s:ByteArray) (l:List T) (ks:List ByteArray):kU (f+1) (aO k n s l ks)=1+(l.map (kU f)).sum:=by rw [kU,Ux,rV]
theorem PO {f:Nat} {k n:Int} {s:ByteArray} {l:List T} {ks:List ByteArray} (hk:k=5\/k=6) (hn:ks.length<=l.length) (hl:∀ x ∈ l,wK f x):wK (f+1) (aO k n s l ks):=by
 refine ⟨fun h=>?_,by rw [eY,aN];exact hn,fun i hi=>?_⟩
 ·unfold gL at h;rw [bg] at h;rcases hk with rfl | rfl<;>simp at h
 ·rw [aN] at hi
  have:elt (aO k n s l ks) i=l[i]:=by
   unfold elt;rw [rV,List.getD_eq_getElem?_getD,List.getElem?_eq_getElem hi];rfl
  rw [this];exact hl _ (List.getElem_mem hi)
theorem Ri (f:Nat) (k n:Int) (s:ByteArray):wK f (dh k n s):=by
 cases f with
 | zero=>trivial
 | succ f =>
  unfold dh;refine ⟨fun _=>by rw [aN];rfl,by rw [eY,aN];exact Nat.le_refl _,fun i hi=>?_⟩;rw [aN] at hi;simp at hi
theorem Uy (f:Nat) (k n:Int) (s:ByteArray):kU f (dh k n s)=1:=by
 cases f with
 | zero=>rfl
 | succ f=>unfold dh;rw [MK];rfl
theorem Gi {f:Nat->Option (T×Nat)} {s:ByteArray} {g:T->Nat} {P:T->Prop} (hf:∀ i t e,i<=s.size->f i=some (t,e)->i<e/\e<=s.size) (hg:∀ i t e,i<=s.size->f i=some (t,e)->g t<=e - i/\P t) (o:Bool):∀ (m i:Nat) (r:(List ByteArray×List T)×Nat),i<=s.size->yX f s o m i=some r->(r.1.2.map g).sum<=r.2 - i/\(∀ x ∈ r.1.2,P x)/\r.1.1.length<=r.1.2.length/\i<r.2/\r.2<=s.size
 | 0,i,r,_,h=>by cases h
 | m+1,i,r,hi,h=>by
  have kG:=Ao hf o (m+1) i r hi h;rw [yX] at h;cases hk:oI s o i with
  | none=>rw [hk] at h;cases h
  | some p =>
   rw [hk] at h;simp only [Option.bind_some] at h;have h1:=Ba hi hk;cases hq:f p.2 with
   | none=>rw [hq] at h;cases h
   | some q =>
    rw [hq] at h;simp only [Option.bind_some] at h;have h2:=hf p.2 q.1 q.2 h1.2.1 hq;have h2g:=hg p.2 q.1 q.2 h1.2.1 hq;have h3:=jy s q.2;split at h
    ·rename_i hc;have h4:=d9 (s:=s) (i:=sk s q.2) (by omega);cases hr:yX f s o m (sk s q.2+1) with
     | none=>rw [hr] at h;cases h
     | some r' =>
      rw [hr] at h;simp only [Option.map_some,Option.some.injEq] at h;have h5:=Gi hf hg o m _ r' (by omega) hr;subst h;refine ⟨?_,?_,?_,kG⟩
      ·simp only [app,List.map_cons,List.sum_cons];omega
      ·intro x hx;simp only [app,List.mem_cons] at hx;rcases hx with rfl | hx
       ·exact h2g.2
       ·exact h5.2.1 x hx
      ·simp only [app];cases o<;>simp<;>omega
    ·split at h
     ·simp only [Option.some.injEq] at h;subst h;refine ⟨?_,?_,?_,kG⟩
      ·simp only [app,List.map_cons,List.map_nil,List.sum_cons,List.sum_nil] at kG ⊢;omega
      ·intro x hx;simp only [app,List.mem_singleton] at hx;subst hx;exact h2g.2
      ·simp only [app];cases o<;>simp
     ·cases h
theorem Rj {f:Nat->Option (T×Nat)} {s:ByteArray} {n:Nat} (hf:∀ i t e,i<=s.size->f i=some (t,e)->i<e/\e<=s.size) (hg:∀ i t e,i<=s.size->f i=some (t,e)->kU n t<=e - i/\wK n t) {j:Nat} {t:T} {e:Nat} (hj:j<=s.size) (h:bY f s j=some (t,e)):kU (n+1) t<=e - j/\wK (n+1) t:=by
 have kG:=xV hf hj h
 have kV:∀ k m x,t=dh k m x->kU (n+1) t<=e - j/\wK (n+1) t:=by
  intro k m x hx;subst hx;rw [Uy];exact ⟨by omega,Ri _ _ _ _⟩
 have Bb:∀ (o:Bool) (k:Int),(k=5\/k=6)->cB s j<256->(jM f s o (j+1)).map (fun r=>(aO k 0 ByteArray.empty r.1.2 r.1.1,r.2))=some (t,e)->kU (n+1) t<=e - j/\wK (n+1) t:=by
  intro o k hk hc hh;have hj1:=d9 hc;have h3:=jy s (j+1);have h5:=lU (s:=s) (i:=j+1) (by omega);cases hb:jM f s o (j+1) with
  | none=>rw [hb] at hh;cases hh
  | some r =>
   rw [hb] at hh;simp only [Option.map_some,Option.some.injEq,Prod.mk.injEq] at hh;obtain ⟨rfl,rfl⟩:=hh;unfold jM at hb;split at hb
   ·simp only [Option.some.injEq] at hb;subst hb;rw [MK];refine ⟨?_,PO hk (by simp) (by simp)⟩;simp only [List.map_nil,List.sum_nil];omega
   ·have:=Gi hf hg o _ _ r h5 hb;rw [MK];refine ⟨?_,PO hk this.2.2.1 this.2.1⟩;have h6:=this.1;have h7:=this.2.2.2.1;omega
 unfold bY at h;split at h
 ·cases ht:jL s j with
  | none=>rw [ht] at h;cases h
  | some q =>
   rw [ht] at h;simp only [Option.map_some,Option.some.injEq,Prod.mk.injEq] at h;exact kV _ _ _ h.1.symm
 ·split at h
  ·exact Bb _ _ (by omega) (by omega) h
  ·split at h
   ·exact Bb _ _ (by omega) (by omega) h
   ·split at h
    ·cases ht:rz s j with
     | none=>rw [ht] at h;cases h
     | some q =>
      rw [ht] at h;simp only [Option.map_some,Option.some.injEq,Prod.mk.injEq] at h;exact kV _ _ _ h.1.symm
    ·split at h
     ·simp only [Option.some.injEq,Prod.mk.injEq] at h;exact kV _ _ _ h.1.symm
     ·split at h
      ·simp only [Option.some.injEq,Prod.mk.injEq] at h;exact kV _ _ _ h.1.symm
      ·split at h
       ·simp only [Option.some.injEq,Prod.mk.injEq] at h;exact kV _ _ _ h.1.symm
       ·cases h
theorem Bj {s:ByteArray}:∀ (n i:Nat) (t:T) (e:Nat),i<=s.size->bZ s n i=some (t,e)->kU n t<=e - i/\wK n t
 | 0,_,_,_,_,h=>by cases h
 | n+1,i,t,e,hi,h=>by
  rw [bZ] at h;have:=Rj (fun i t e=>jc n i t e) (fun i t e=>Bj n i t e) (lU hi) h;have h2:=jy s i;exact ⟨by omega,this.2⟩
theorem Uz {w:World}:∀ {f:Nat} {v:Value} {t:T} {es:List kS},gZ w f v t es->wK f t->es.length<=kU f t/\∀ e ∈ es,e.n<=kU f t/\e.m<=kU f t:=by
 intro f
 induction f with
 | zero=>intro v t es h;exact h.elim
 | succ f ih =>
  rintro v t es ⟨Lv,Kv,xs,sub,rfl,hf,hl,hk,hc,hn,rfl⟩ ⟨_,hkl,hg⟩;have hge:=Jt (g:=kU f) (t:=t) (fun t=>YK f t) (nL t);rw [kU];refine ⟨?_,fun e he=>?_⟩
  ·have:=PN (s:=sub) (g:=fun i=>kU f (elt t i)) (nL t) (fun i hi=>(ih (hc i hi) (hg i hi)).1);rw [<- Bh] at this;rw [List.length_append,List.length_singleton];omega
  ·rw [List.mem_append] at he;rcases he with he | he
   ·obtain ⟨i,hi,hh⟩:=Gh he;have h1:=(ih (hc i hi) (hg i hi)).2 e hh;have h2:=Ju (g:=kU f) (t:=t) hi;omega
   ·simp only [List.mem_singleton] at he;subst he;simp only;omega
theorem xX {g:T->Nat} {t:T} {i:Nat}:∀ {k:Nat},i<k->g (elt t i)<=qR g t k
 | k+1,h=>by
  rw [qR];by_cases e:i=k
  ·subst e;omega
  ·have:=xX (g:=g) (t:=t) (i:=i) (k:=k) (by omega);omega
theorem UA {w:World}:∀ {f n:Nat} {v:Value} {t:T} {es:List kS},gZ w f v t es->wK f t->dY f t<=n->gZ w (n+1) v t es:=by
 intro f
 induction f with
 | zero=>intro n v t es h;exact h.elim
 | succ f ih =>
  rintro n v t es ⟨Lv,Kv,xs,sub,rfl,hf,hl,hk,hc,hn,rfl⟩ ⟨hb,_,hg⟩ hd;refine ⟨Lv,Kv,xs,sub,rfl,hf,hl,hk,fun i hi=>?_,hn,rfl⟩;cases hbx:gL t with
  | false =>
   have:=hb hbx;omega
  | true =>
   rw [dY,if_pos hbx] at hd;have h1:=xX (g:=dY f) (t:=t) hi;obtain ⟨m,rfl⟩:∃ m,n=m+1:=⟨n - 1,by omega⟩;exact ih (hc i hi) (hg i hi) (by omega)
theorem Gj {k n:Int} {s:ByteArray} {l:List T} {ks:List ByteArray} {i:Nat} (hi:i<nL (aO k n s l ks)):elt (aO k n s l ks) i ∈ l:=by
 unfold elt;unfold nL at hi;rw [rV] at hi ⊢;have e:l.getD i DataW.nil=l[i]:=by simp [List.getD,List.getElem?_eq_getElem hi]
 rw [e];exact List.getElem_mem hi
theorem Gl {f:Nat} {k n:Int} {s:ByteArray} {l:List T} {ks:List ByteArray} (hl:∀ x ∈ l,xS f x):xS (f+1) (aO k n s l ks):=fun _ hi=>hl _ (Gj hi)
theorem ML {f:Nat->Option (T×Nat)} {s:ByteArray} {n:Nat} (hf:∀ i t e,i<=s.size->f i=some (t,e)->i<e/\e<=s.size) (hg:∀ i t e,i<=s.size->f i=some (t,e)->xS n t) {j:Nat} {t:T} {e:Nat} (h:bY f s j=some (t,e)):xS (n+1) t:=by
 have kV:∀ k m x,t=dh k m x->xS (n+1) t:=by
  intro k m x hx;subst hx;exact Gl (by simp)
 have Bb:∀ (o:Bool) (k:Int),cB s j<256->(jM f s o (j+1)).map (fun r=>(aO k 0 ByteArray.empty r.1.2 r.1.1,r.2))=some (t,e)->xS (n+1) t:=by
  intro o k hc hh;have hj1:=d9 hc;have h5:=lU (s:=s) (i:=j+1) (by omega);cases hb:jM f s o (j+1) with
  | none=>rw [hb] at hh;cases hh
  | some r =>
   rw [hb] at hh;simp only [Option.map_some,Option.some.injEq,Prod.mk.injEq] at hh;obtain ⟨rfl,rfl⟩:=hh;unfold jM at hb;split at hb
   ·simp only [Option.some.injEq] at hb;subst hb;exact Gl (by simp)
   ·exact Gl (Gi (g:=fun _=>0) (P:=xS n) hf (fun i t e hi h=>⟨Nat.zero_le _,hg i t e hi h⟩) o _ _ r h5 hb).2.1
 unfold bY at h;split at h
 ·cases ht:jL s j with
  | none=>rw [ht] at h;cases h
  | some q =>
   rw [ht] at h;simp only [Option.map_some,Option.some.injEq,Prod.mk.injEq] at h;exact kV _ _ _ h.1.symm
 ·split at h
  ·exact Bb _ _ (by omega) h
  ·split at h
   ·exact Bb _ _ (by omega) h
   ·split at h
    ·cases ht:rz s j with
     | none=>rw [ht] at h;cases h
     | some q =>
      rw [ht] at h;simp only [Option.map_some,Option.some.injEq,Prod.mk.injEq] at h;exact kV _ _ _ h.1.symm
    ·split at h
     ·simp only [Option.some.injEq,Prod.mk.injEq] at h;exact kV _ _ _ h.1.symm
     ·split at h
      ·simp only [Option.some.injEq,Prod.mk.injEq] at h;exact kV _ _ _ h.1.symm
      ·split at h
       ·simp only [Option.some.injEq,Prod.mk.injEq] at h;exact kV _ _ _ h.1.symm
       ·cases h
theorem Ef {s:ByteArray}:∀ (n i:Nat) (t:T) (e:Nat),i<=s.size->bZ s n i=some (t,e)->xS n t
 | 0,_,_,_,_,h=>by cases h
 | n+1,i,t,e,_,h=>by
  rw [bZ] at h;exact ML (fun i t e=>jc n i t e) (fun i t e=>Ef n i t e) h
theorem Eh:∀ (f m:Nat) (t:T),xS f t->wK f t->wK m t
 | 0,_,_,h,_=>h.elim
 | _+1,0,_,_,_=>trivial
 | f+1,m+1,_,h,ht=>⟨ht.1,ht.2.1,fun i hi=>Eh f m _ (h i hi) (ht.2.2 i hi)⟩
theorem PS {g g':T->Nat} {t:T}:∀ k,(∀ i,i<k->g (elt t i)<=g' (elt t i))->fG g t k<=fG g' t k
 | 0,_=>Nat.le_refl _
 | k+1,h=>by
  have h1:=PS (g:=g) (g':=g') (t:=t) k (fun i hi=>h i (by omega));have h2:=h k (by omega);simp only [fG];omega
theorem Jv:∀ (f m:Nat) (t:T),xS f t->kU m t<=kU f t
 | 0,_,_,h=>h.elim
 | f+1,0,_,_=>by simp only [kU];omega
 | f+1,m+1,t,h=>by
  have:=PS (g:=kU m) (g':=kU f) (t:=t) (nL t) (fun i hi=>Jv f m _ (h i hi));simp only [kU];omega
theorem PU {s:ByteArray} (h:eJ s=0):s.size<=4000/\∃ j,bZ s (s.size+1) 0=some (tJ s,j)/\sk s j=s.size/\dY (s.size+1) (tJ s)<=12/\dU (s.size+1) (tJ s)=false:=by
 have hs:s.size<=4000:=by
  rcases Nat.lt_or_ge 4000 s.size with hl | hl
  ·unfold eJ at h;rw [if_pos hl] at h;omega
  ·exact hl
 refine ⟨hs,?_⟩;cases hf:nO s with
 | none=>unfold eJ at h;rw [if_neg (by omega),hf] at h;cases h
 | some t =>
  have ht:tJ s=t:=by unfold tJ;rw [if_pos h,hf];rfl
  unfold eJ at h;rw [if_neg (by omega),hf] at h;simp only [Option.map_some,Option.getD_some] at h;unfold nO at hf;cases hv:bZ s (s.size+1) 0 with
  | none=>rw [hv] at hf;cases hf
  | some p =>
   rw [hv] at hf;simp only [Option.bind_some] at hf;split at hf
   ·rename_i hsk;simp only [Option.some.injEq] at hf;subst hf;rw [ht];refine ⟨p.2,rfl,hsk,?_,?_⟩
    ·rcases Nat.lt_or_ge 12 (dY (s.size+1) p.1) with hl | hl
     ·rw [if_pos hl] at h;omega
     ·exact hl
    ·by_cases hd:12<dY (s.size+1) p.1
     ·rw [if_pos hd] at h;omega
     ·rw [if_neg hd] at h;cases htw:dU (s.size+1) p.1 with
      | false=>rfl
      | true=>rw [htw] at h;simp at h
   ·cases hf
theorem abx {s:ByteArray} (h:eJ s=0) (m:Nat):kU m (tJ s)<=4000/\wK m (tJ s):=by
 obtain ⟨hs,j,hv,hj,_⟩:=PU h;have h1:=Bj _ _ _ _ (by omega) hv;have h2:=Ef _ _ _ _ (by omega) hv;have h3:=Jv _ m _ h2;have h4:=jc _ _ _ _ (by omega) hv;exact ⟨by omega,Eh _ m _ h2 h1.2⟩
def vtL : List (List UInt8) :=
  [[110, 117, 108, 108], [102, 97, 108, 115, 101], [116, 114, 117, 101],
   [45, 52], [45, 51], [45, 50], [45, 49], [48], [49], [50], [51], [52],
   [34, 97, 34], [34, 98, 34], [34, 99, 34], [91, 93],
   [91, 48, 44, 48, 93], [91, 48, 44, 49, 93], [91, 48, 44, 50, 93], [91, 48, 44, 51, 93], [91, 49, 44, 48, 93], [91, 49, 44, 49, 93], [91, 49, 44, 50, 93], [91, 49, 44, 51, 93],
   [91, 50, 44, 48, 93], [91, 50, 44, 49, 93], [91, 50, 44, 50, 93], [91, 50, 44, 51, 93], [91, 51, 44, 48, 93], [91, 51, 44, 49, 93], [91, 51, 44, 50, 93], [91, 51, 44, 51, 93],
   [123, 34, 98, 34, 58, 48, 125], [123, 34, 98, 34, 58, 49, 125], [123, 34, 98, 34, 58, 50, 125], [123, 34, 98, 34, 58, 51, 125]]
def vt (i:Nat):ByteArray:=bP (vtL.getD i [])
def nT (n:Int):T:=dh 3 n ByteArray.empty
def Mi (a b:Int):T:=aO 5 0 ByteArray.empty [nT a,nT b] []
def obT (a:Int):T:=aO 6 0 ByteArray.empty [nT a] [⟨#[98]⟩]
def tvL : List T :=
  [dh 1 0 ByteArray.empty, dh 2 0 ByteArray.empty, dh 2 1 ByteArray.empty,
   nT (-4), nT (-3), nT (-2), nT (-1), nT 0, nT 1, nT 2, nT 3, nT 4,
   dh 4 0 ⟨#[97]⟩, dh 4 0 ⟨#[98]⟩, dh 4 0 ⟨#[99]⟩, aO 5 0 ByteArray.empty [] [],
   Mi 0 0, Mi 0 1, Mi 0 2, Mi 0 3, Mi 1 0, Mi 1 1, Mi 1 2, Mi 1 3, Mi 2 0, Mi 2 1, Mi 2 2, Mi 2 3, Mi 3 0, Mi 3 1, Mi 3 2, Mi 3 3,
   obT 0, obT 1, obT 2, obT 3]
def tv (i:Nat):T:=tvL.getD i (dh 0 0 ByteArray.empty)
theorem YL:((List.range 36).all fun i=>decide ((vt i).size<=10))=true:=by kernel_rfl
theorem lV {i:Nat} (h:i<36):(vt i).size<=10:=of_decide_eq_true (List.all_eq_true.1 YL i (List.mem_range.2 h))
def IsV (s:ByteArray):Prop:=∃ i,i<36/\s=vt i
theorem UC (n:Nat) (h:n<10):Lib.decDigits n=[(n+48).toUInt8]:=by
 rw [Lib.decDigits.eq_def,dif_pos h]
 first | rfl | (simp [Nat.add_comm])
theorem pF (n:Nat) (h:n<10):Lib.itoa (n:Int)=[(n+48).toUInt8]:=by
 unfold Lib.itoa;rw [if_neg (by omega),Int.toNat_natCast,UC n h]
theorem itoa_neg (n:Nat) (h0:0<n) (h:n<10):Lib.itoa (-(n:Int))=[45,(n+48).toUInt8]:=by
 unfold Lib.itoa;rw [if_pos (by omega),Int.natAbs_neg,Int.natAbs_natCast,UC n h]
theorem lY (d:Int):IsV (bP (Lib.itoa (d % 9 - 4))):=by
 have h:d % 9=0\/d % 9=1\/d % 9=2\/d % 9=3\/d % 9=4\/d % 9=5\/d % 9=6\/d % 9=7\/d % 9=8:=by omega
 rcases h with h | h | h | h | h | h | h | h | h<;>rw [h]
 ·exact ⟨3,by omega,by show bP (Lib.itoa (-((4:Nat):Int)))=_;rw [itoa_neg 4 (by omega) (by omega)];rfl⟩
 ·exact ⟨4,by omega,by show bP (Lib.itoa (-((3:Nat):Int)))=_;rw [itoa_neg 3 (by omega) (by omega)];rfl⟩
 ·exact ⟨5,by omega,by show bP (Lib.itoa (-((2:Nat):Int)))=_;rw [itoa_neg 2 (by omega) (by omega)];rfl⟩
 ·exact ⟨6,by omega,by show bP (Lib.itoa (-((1:Nat):Int)))=_;rw [itoa_neg 1 (by omega) (by omega)];rfl⟩
 ·exact ⟨7,by omega,by show bP (Lib.itoa ((0:Nat):Int))=_;rw [pF 0 (by omega)];rfl⟩
 ·exact ⟨8,by omega,by show bP (Lib.itoa ((1:Nat):Int))=_;rw [pF 1 (by omega)];rfl⟩
 ·exact ⟨9,by omega,by show bP (Lib.itoa ((2:Nat):Int))=_;rw [pF 2 (by omega)];rfl⟩
 ·exact ⟨10,by omega,by show bP (Lib.itoa ((3:Nat):Int))=_;rw [pF 3 (by omega)];rfl⟩
 ·exact ⟨11,by omega,by show bP (Lib.itoa ((4:Nat):Int))=_;rw [pF 4 (by omega)];rfl⟩
end Go.Proofs.YtknakfpciccoaaaGreatDoor
