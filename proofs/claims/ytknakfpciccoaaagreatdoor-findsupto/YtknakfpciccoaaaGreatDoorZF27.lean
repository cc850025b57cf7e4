import Derived.Test.YtknakfpciccoaaaGreatDoorZF26
import Derived.Test.YtknakfpciccoaaaGreatDoorZF19
import Derived.Lib.CountLaws
import Derived.Lib.CutLaws
/- The program's store as a list of names and documents: all answers of its calls. -/
set_option maxHeartbeats 8000000
set_option maxRecDepth 100000
namespace Go.Proofs.YtknakfpciccoaaaGreatDoor
open Go.RowKit Go.Maps Go.WideMaps
abbrev fH:=List (ByteArray×List T)
def iA:fH->ByteArray->Option (List T)
 | [],_=>none
 | r::S,x=>if r.1=x then some r.2 else iA S x
def qx:fH->ByteArray->List T->fH
 | [],_,_=>[]
 | r::S,x,l=>if r.1=x then (r.1,l)::S else r::qx S x l
def sV:fH->ByteArray->fH
 | [],_=>[]
 | r::S,x=>if r.1=x then S else r::sV S x
theorem BJ {x:ByteArray} {l:List T}:∀ {S:fH},(iA S x).isSome=true->∀ y,iA (qx S x l) y=if y=x then some l else iA S y
 | [],h,_=>by cases h
 | r::S,h,y=>by
  unfold qx;by_cases e:r.1=x
  ·rw [if_pos e];subst e;by_cases ey:y=r.1
   ·subst ey;rw [if_pos rfl,iA,if_pos rfl]
   ·rw [if_neg ey,iA,iA,if_neg (fun h=>ey h.symm),if_neg (fun h=>ey h.symm)]
  ·rw [if_neg e];rw [iA,if_neg e] at h;rw [iA,iA,BJ h y];by_cases ey:y=x
   ·subst ey;rw [if_neg e,if_pos rfl,if_pos rfl]
   ·rw [if_neg ey,if_neg ey]
theorem LM {x:ByteArray} {l:List T}:∀ {S:fH},iA S x=none->∀ y,iA (S++[(x,l)]) y=if y=x then some l else iA S y
 | [],_,y=>by
  show (if x=y then some l else none)=if y=x then some l else none;by_cases e:y=x
  ·rw [if_pos e,if_pos e.symm]
  ·rw [if_neg e,if_neg (fun h=>e h.symm)]
 | r::S,h,y=>by
  by_cases e:r.1=x
  ·rw [iA,if_pos e] at h;cases h
  rw [iA,if_neg e] at h;rw [List.cons_append,iA,iA,LM h y];by_cases ey:y=x
  ·subst ey;rw [if_neg e,if_pos rfl,if_pos rfl]
  ·rw [if_neg ey,if_neg ey]
theorem Je {x:ByteArray}:∀ {S:fH},x ∉ S.map (·.1)->iA S x=none
 | [],_=>rfl
 | r::S,h=>by
  rw [List.map_cons,List.mem_cons,not_or] at h;rw [iA,if_neg (fun e=>h.1 e.symm),Je h.2]
theorem LP {x:ByteArray}:∀ {S:fH},(S.map (·.1)).Nodup->∀ y,iA (sV S x) y=if y=x then none else iA S y
 | [],_,y=>by show none=_;split<;>rfl
 | r::S,h,y=>by
  rw [List.map_cons,List.nodup_cons] at h;unfold sV;by_cases e:r.1=x
  ·rw [if_pos e];subst e;by_cases ey:y=r.1
   ·subst ey;rw [if_pos rfl];exact Je h.1
   ·rw [if_neg ey,iA,if_neg (fun h=>ey h.symm)]
  ·rw [if_neg e,iA,iA,LP h.2 y];by_cases ey:y=x
   ·subst ey;rw [if_neg e,if_pos rfl,if_pos rfl]
   ·rw [if_neg ey,if_neg ey]
theorem zP {x:ByteArray} {l:List T}:∀ S:fH,(qx S x l).length=S.length
 | []=>rfl
 | r::S=>by unfold qx;split<;>simp [zP S]
theorem Ez {x:ByteArray} {l:List T}:∀ S:fH,(qx S x l).map (·.1)=S.map (·.1)
 | []=>rfl
 | r::S=>by unfold qx;split<;>simp [Ez S]
theorem NU {x:ByteArray}:∀ {S:fH},(iA S x).isSome=true->(sV S x).length+1=S.length
 | [],h=>by cases h
 | r::S,h=>by
  unfold sV;by_cases e:r.1=x
  ·rw [if_pos e];rfl
  ·rw [if_neg e];rw [iA,if_neg e] at h;simp [NU h]
theorem BK {x:ByteArray}:∀ {S:fH},iA S x=none->sV S x=S
 | [],_=>rfl
 | r::S,h=>by
  by_cases e:r.1=x
  ·rw [iA,if_pos e] at h;cases h
  ·rw [iA,if_neg e] at h;rw [sV,if_neg e,BK h]
theorem wm {x:ByteArray}:∀ S:fH,(sV S x).Sublist S
 | []=>List.Sublist.slnil
 | r::S=>by
  unfold sV;split
  ·exact List.sublist_cons_self _ _
  ·exact (wm S).cons_cons _
theorem ow {x:ByteArray} {l:List T}:∀ {S:fH},iA S x=some l->(x,l) ∈ S
 | [],h=>by cases h
 | r::S,h=>by
  rw [iA] at h;by_cases e:r.1=x
  ·rw [if_pos e] at h;cases h;subst e;exact List.mem_cons_self
  ·rw [if_neg e] at h;exact List.mem_cons_of_mem _ (ow h)
theorem FQ {x:ByteArray} {l:List T} {r:ByteArray×List T}:∀ {S:fH},r ∈ qx S x l->r ∈ S\/r=(x,l)
 | [],h=>by cases h
 | s::S,h=>by
  unfold qx at h;by_cases e:s.1=x
  ·rw [if_pos e] at h;rcases List.mem_cons.1 h with h | h
   ·exact .inr (by rw [h,e])
   ·exact .inl (List.mem_cons_of_mem _ h)
  ·rw [if_neg e] at h;rcases List.mem_cons.1 h with h | h
   ·exact .inl (h ▸ List.mem_cons_self)
   ·exact (FQ h).imp (List.mem_cons_of_mem _) id
def nk (S:fH) (x:ByteArray):Int:=if oZ x=false then 10 else if (iA S x).isSome then 11 else if 6<=S.length then 12 else 0
def za (S:fH) (x:ByteArray):fH:=if nk S x=0 then S++[(x,[])] else S
def Jf (S:fH) (x:ByteArray):Int:=if (iA S x).isSome then 0 else 10
def FR (s:ByteArray) (l:List T):Bool:=bg (iK (Gs (tJ s))) (dU 5 0 ByteArray.empty l []) l.length
def je (S:fH) (x s:ByteArray):Int:=match jq s with
 | some er=>er
 | none=>match iA S x with
  | none=>10
  | some l=>if FR s l then 11 else if 60<=l.length then 12 else 0
def xG (S:fH) (x s:ByteArray):fH:=if je S x s=0 then qx S x ((iA S x).getD []++[tJ s]) else S
def eB (S:fH) (x s:ByteArray):Int:=if eJ s≠0 then eJ s else if aL 16 (tJ s)=false then 8 else if (iA S x).isSome then 0 else 10
def dI (S:fH) (x s:ByteArray):List T:=if eB S x s=0 then ((iA S x).getD []).filter (dN 16 (tJ s)) else []
def ze (S:fH) (x s:ByteArray):fH:=if eB S x s=0 then qx S x (((iA S x).getD []).filter fun t=>!(dN 16 (tJ s) t)) else S
def wM (Q:Nat->Prop) (w:World) (p:Nat) (S:fH):Prop :=
 ∃ L m n D lf vf xf,uD L w p m n D lf vf xf/\(∀ b,L b≠0->Q b)/\(∀ x y (c:Nat),qC D x=.lit (.int .i64 c)->qC D y=.lit (.int .i64 c)->x=y)/\(∀ x,(iA S x=none/\qC D x=.nil)\/∃ c:Nat,qC D x=.lit (.int .i64 c)/\iA S x=some (lf c))/\Maps.size D=S.length/\∀ x,Maps.has D (o7 x)=(iA S x).isSome
theorem uD.tight {L:Nat->Nat} {w:World} {p m n:Nat} {D:DataW Unit} {lf:Nat->List T} {vf:Nat->Value} {xf:Nat->List Value} (h:uD L w p m n D lf vf xf):uD L w p m (Maps.size D) D lf vf xf:=by
 refine ⟨⟨h.CW.cell,h.CW.low,?_⟩,h.lp,h.lm,h.low,h.col⟩;obtain ⟨es,clock,h1,F,h2,h3⟩:=h.CW.own;refine ⟨es,clock,h1,F,?_,h3⟩;have e1:Maps.size D=es.size:=by rw [h3,Maps.size_eq,length_read]
 omega
theorem wM.mono {Q Q':Nat->Prop} {w:World} {p:Nat} {S:fH} (h:wM Q w p S) (hq:∀ b,b<w.heap.size->Q b->Q' b):wM Q' w p S:=by
 obtain ⟨L,m,n,D,lf,vf,xf,h1,h2,h3⟩:=h;exact ⟨L,m,n,D,lf,vf,xf,h1,fun b hb=>hq b (h1.low b hb) (h2 b hb),h3⟩
theorem uD.move {L:Nat->Nat} {w w':World} {p m n:Nat} {D:DataW Unit} {lf:Nat->List T} {vf:Nat->Value} {xf:Nat->List Value} (h:uD L w p m n D lf vf xf) (hs:w.heap.size<=w'.heap.size) (hb:∀ b,L b≠0->w'.heap[b]?=w.heap[b]?):uD L w' p m n D lf vf xf :=
 ⟨h.CW.move hs (hb p (by rw [h.lp];omega)) (hb m (by rw [h.lm];omega)),h.lp,h.lm,fun b hl=>Nat.lt_of_lt_of_le (h.low b hl) hs,fun x c hx=>(h.col x c hx).move hs fun b hl=>⟨rfl,hb b (by omega)⟩⟩
theorem wM.move {Q:Nat->Prop} {w w':World} {p:Nat} {S:fH} (h:wM Q w p S) (hs:w.heap.size<=w'.heap.size) (hb:∀ b,b<w.heap.size->Q b->w'.heap[b]?=w.heap[b]?):wM Q w' p S:=by
 obtain ⟨L,m,n,D,lf,vf,xf,h1,h2,h3⟩:=h;exact ⟨L,m,n,D,lf,vf,xf,h1.move hs fun b hl=>hb b (h1.low b hl) (h2 b hl),h2,h3⟩
theorem wM.keep {Q:Nat->Prop} {w w':World} {p:Nat} {S:fH} (h:wM Q w p S) (hb:Below w.heap.size w w'):wM Q w' p S:=h.move hb.size fun b hl _=>hb.block b hl
theorem wM.new (w:World) (Q:Nat->Prop) (hQ:∀ b,w.heap.size<=b->Q b):wM Q ((w.alloc (.map #[] 0)).alloc (.cells #[.map (some w.heap.size)] 102)) (w.heap.size+1) []:=by
 obtain ⟨L,h1,h2⟩:=uD.new w (fun _=>[]) (fun _=>.slice none 0 0) (fun _=>[]);refine ⟨L,_,_,_,_,_,_,h2,fun b hb=>hQ b (h1 b hb),fun x y c hx=>?_,fun x=>.inl ⟨rfl,rfl⟩,rfl,fun x=>rfl⟩;have e:qC (.map []) x=.nil:=rfl;rw [e] at hx;cases hx
theorem BL {Q:Nat->Prop} {w:World} {p:Nat} {S:fH} (h:wM Q w p S) (hQ:∀ b,w.heap.size<=b->Q b) (x:ByteArray) (hx:x.size<=140737488355328) (hn:S.length<=6) :
  Calls Tryz.prog 37 #[.pointer (some ⟨p,0,none⟩),.string x] w fun e w'=>e=.returned (.int .i64 (nk S x))/\aP Q w w'/\wM Q w' p (za S x):=by
 have H:=h;obtain ⟨L,m,n,D,lf,vf,xf,h1,h2,h3,h4,h5,hh⟩:=h;have hpm:p≠m:=fun e=>by have:=h1.lp;have:=h1.lm;subst e;omega
 have hno:nk S x≠0->za S x=S:=fun h=>if_neg h;refine (Lx p m _ D x w hx (by omega) h1.tight.CW hpm).mono ?_;rintro e w' (⟨h6,rfl,rfl⟩ | ⟨h6,⟨c,h7⟩,rfl,rfl⟩ | ⟨h6,h7,h8,rfl,rfl⟩ | ⟨h6,h7,h8,rfl,hok⟩)
 ·have e:nk S x=10:=by unfold nk;rw [if_pos h6]
  exact ⟨by rw [e],aP.of (Below.refl _ _),by rw [hno (by rw [e];decide)];exact H⟩
 ·have e:nk S x=11:=by
   unfold nk;rw [if_neg (by rw [h6];simp),if_pos];rcases h4 x with ⟨_,h⟩ | ⟨c',_,h⟩
   ·rw [h7] at h;cases h
   ·rw [h];rfl
  exact ⟨by rw [e],aP.of (Below.refl _ _),by rw [hno (by rw [e];decide)];exact H⟩
 ·have hnone:iA S x=none:=by
   rcases h4 x with ⟨h,_⟩ | ⟨c',h,_⟩
   ·exact h
   ·rw [h7] at h;cases h
  have e:nk S x=12:=by
   unfold nk;rw [if_neg (by rw [h6];simp),hnone,if_neg (by simp),if_pos (by omega)]
  exact ⟨by rw [e],aP.of (Below.refl _ _),by rw [hno (by rw [e];decide)];exact H⟩
 ·have hnone:iA S x=none:=by
   rcases h4 x with ⟨h,_⟩ | ⟨c',h,_⟩
   ·exact h
   ·rw [h7] at h;cases h
  have e:nk S x=0:=by
   unfold nk;rw [if_neg (by rw [h6];simp),hnone,if_neg (by simp),if_neg (by omega)]
  obtain ⟨L',c,hc,hl,hst⟩:=h1.tight.cre hok;obtain ⟨c',_,_,_,_,_,hB⟩:=hok;have hmB:Q m:=h2 m (by rw [h1.lm];omega);have ht:=h1.CW.own.tidy Kl;refine ⟨by rw [e],hB.q hmB (fun b e=>by cases e),L',m,_,_,_,_,_,hst,fun b hb=>?_,fun y z c1 hy hz=>?_,fun y=>?_,?_,fun y=>?_⟩
  ·rcases hl b hb with h | h
   ·exact h2 b h
   ·exact hQ b (by omega)
  ·by_cases ey:y=x
   ·by_cases ez:z=x
    ·rw [ey,ez]
    ·subst ey;rw [mh h1.CW.own.isMap] at hy;rw [iU ez] at hz;obtain rfl:=sI hy;have:=h1.low _ (by rw [(h1.col z _ hz).lab];omega);omega
   ·rw [iU ey] at hy;by_cases ez:z=x
    ·subst ez;rw [mh h1.CW.own.isMap] at hz;obtain rfl:=sI hz;have:=h1.low _ (by rw [(h1.col y _ hy).lab];omega);omega
    ·rw [iU ez] at hz;exact h3 y z c1 hy hz
  ·unfold za;rw [if_pos e,LM hnone];by_cases ey:y=x
   ·subst ey;exact .inr ⟨c,mh h1.CW.own.isMap _ _,by rw [if_pos rfl,bX]⟩
   ·rw [if_neg ey,iU ey];rcases h4 y with h | ⟨c1,hy,hs⟩
    ·exact .inl h
    ·refine .inr ⟨c1,hy,?_⟩;have:=h1.low _ (by rw [(h1.col y _ hy).lab];omega);rw [bB _ _ (by omega)];exact hs
  ·unfold za;rw [if_pos e,Maps.size_put ht,hh x,hnone,List.length_append,h5];rfl
  ·unfold za;rw [if_pos e,LM hnone];by_cases ey:y=x
   ·subst ey;rw [if_pos rfl,Maps.has_put_same h1.CW.own.isMap (I9 y)];rfl
   ·rw [if_neg ey,Maps.has_put_other (zN ey),hh y]
theorem Tf {Q:Nat->Prop} {w:World} {p:Nat} {S:fH} (h:wM Q w p S) (x:ByteArray) (hx:x.size<=140737488355328) (hd:(S.map (·.1)).Nodup) :
  Calls Tryz.prog 32 #[.pointer (some ⟨p,0,none⟩),.string x] w fun e w'=>e=.returned (.int .i64 (Jf S x))/\aP Q w w'/\wM Q w' p (sV S x):=by
 have H:=h;obtain ⟨L,m,n,D,lf,vf,xf,h1,h2,h3,h4,h5,hh⟩:=h;have hpm:p≠m:=fun e=>by have:=h1.lp;have:=h1.lm;subst e;omega
 refine (Te p m n D x w hx h1.CW hpm).mono ?_;rintro e w' (⟨h6,rfl,rfl⟩ | ⟨⟨c,h6⟩,rfl,hs,hB⟩)
 ·have hnone:iA S x=none:=by
   rcases h4 x with ⟨h,_⟩ | ⟨c',h,_⟩
   ·exact h
   ·rw [h6] at h;cases h
  refine ⟨by unfold Jf;rw [hnone];rfl,aP.of (Below.refl _ _),?_⟩;rw [BK hnone];exact H
 ·have hsome:∃ l,iA S x=some l:=by
   rcases h4 x with ⟨_,h⟩ | ⟨c',_,h⟩
   ·rw [h6] at h;cases h
   ·exact ⟨_,h⟩
  obtain ⟨l,hl⟩:=hsome;have hmB:=h2 m (by rw [h1.lm];omega);refine ⟨by unfold Jf;rw [hl];rfl,hB.q hmB (fun b e=>by cases e),L,m,_,_,lf,vf,xf,h1.drop hs hB,h2,fun y z c hy hz=>?_,fun y=>?_,?_,fun y=>?_⟩
  ·by_cases ey:y=x
   ·subst ey;rw [mo] at hy;cases hy
   ·by_cases ez:z=x
    ·subst ez;rw [mo] at hz;cases hz
    ·rw [kI D ey] at hy;rw [kI D ez] at hz;exact h3 y z c hy hz
  ·rw [LP hd];by_cases ey:y=x
   ·subst ey;exact .inl ⟨if_pos rfl,mo _ _⟩
   ·rw [if_neg ey,kI D ey];exact h4 y
  ·have e1:=Maps.size_del (k:=o7 x) (h1.CW.own.tidy Kl);rw [hh x,hl] at e1;have e2:=NU (S:=S) (x:=x) (by rw [hl];rfl);simp only [Option.isSome_some,if_true] at e1;omega
  ·rw [LP hd];by_cases ey:y=x
   ·subst ey;rw [if_pos rfl,Maps.has_del_same];rfl
   ·rw [if_neg ey,Maps.has_del_other (zN ey),hh y]
theorem BM {Tb:World->Prop} (hA:dS Tb) {Q:Nat->Prop} {w:World} {p:Nat} {S:fH} (h:wM Q w p S) (hQ:∀ b,w.heap.size<=b->Q b) (x s:ByteArray) (hx:x.size<=140737488355328) (hs:s.size<=140737488355328) (hm:∀ r ∈ S,r.2.length<=60) (hT:Tb w) :
  Calls Tryz.prog 38 #[.pointer (some ⟨p,0,none⟩),.string x,.string s] w fun e w'=>e=.returned (.int .i64 (je S x s))/\aP Q w w'/\wM Q w' p (xG S x s):=by
 have H:=h;obtain ⟨L,m,n,D,lf,vf,xf,h1,h2,h3,h4,h5,hh⟩:=h;have hno:je S x s≠0->xG S x s=S:=fun h=>if_neg h
 have hlk:∀ c:Nat,qC D x=.lit (.int .i64 c)->iA S x=some (lf c):=fun c hc=>by
  rcases h4 x with ⟨_,h⟩ | ⟨c',hc',h⟩
  ·rw [hc] at h;cases h
  ·rw [hc] at hc';obtain rfl:=sI hc';exact h
 refine (I8 hA p m n D lf vf xf x s w hs hx h1.CW (fun c1 hc1=>⟨h1.Xd hc1,by have:=hm _ (ow (hlk c1 hc1));simp only at this;omega,(h1.col x c1 hc1).doc⟩) hT).mono ?_;rintro e w' (⟨hb,er,h5',rfl⟩ | ⟨hb,h6,h7,rfl⟩ | ⟨hin,c,hc,w1,A,Bc,C,Dc,hb,hat,hI⟩)
 ·have e:je S x s=er:=by unfold je;rw [h5']
  have hz:er≠0:=by
   unfold jq at h5';split at h5'
   ·rename_i hj;cases h5';exact hj
   ·split at h5'
    ·cases h5';decide
    ·split at h5'
     ·cases h5';decide
     ·cases h5'
  exact ⟨by rw [e],aP.of hb,by rw [hno (by rw [e];exact hz)];exact H.keep hb⟩
 ·have hnone:iA S x=none:=by
   rcases h4 x with ⟨h,_⟩ | ⟨c',h,_⟩
   ·exact h
   ·rw [h7] at h;cases h
  have e:je S x s=10:=by unfold je;rw [h6];simp only;rw [hnone]
  exact ⟨by rw [e],aP.of hb,by rw [hno (by rw [e];decide)];exact H.keep hb⟩
 ·have hl:=hlk c hc;have hco:=h1.col x c hc;have hcB:Q c:=h2 c (by rw [hco.lab];omega);have hbase:je S x s=if FR s (lf c) then 11 else if 60<=(lf c).length then 12 else 0:=by unfold je;rw [hin];simp only;rw [hl]
  rcases hI with ⟨hB,h6,rfl⟩ | ⟨hB,h6,h7,rfl⟩ | ⟨hB,h6,h7,rfl,g,cap,q0,f0,hg,hO⟩
  ·have e:je S x s=11:=by rw [hbase];unfold FR;rw [h6];rfl
   have hb2:=hb.trans (hB.mono hb.size);exact ⟨by rw [e],aP.of hb2,by rw [hno (by rw [e];decide)];exact H.keep hb2⟩
  ·have e:je S x s=12:=by rw [hbase];unfold FR;rw [h6,if_neg (by simp),if_pos h7]
   have hb2:=hb.trans (hB.mono hb.size);exact ⟨by rw [e],aP.of hb2,by rw [hno (by rw [e];decide)];exact H.keep hb2⟩
  ·have e:je S x s=0:=by rw [hbase];unfold FR;rw [h6,if_neg (by simp),if_neg (by omega)]
   have xH:W9 (tJ s):=by
    unfold jq at hin;split at hin
    ·cases hin
    ·rename_i e1;split at hin
     ·cases hin
     ·rename_i e2;exact xD (gZ (by simpa using e1)) (by simpa using e2)
   obtain ⟨L',hl',hst⟩:=h1.ins hc hb hat xH hB q0 f0 hg hO;have hbs:=hb.size;refine ⟨by rw [e],aP.after hb (hB.q hcB (fun b e=>h2 b (by rw [hco.fP b e];omega))),L',m,n,D,_,_,_,hst,fun b hb0=>?_,h3,fun y=>?_,?_,fun y=>?_⟩
   ·rcases hl' b hb0 with h | h
    ·exact h2 b h
    ·exact hQ b (by omega)
   ·unfold xG;rw [if_pos e,BJ (by rw [hl];rfl)];by_cases ey:y=x
    ·subst ey;exact .inr ⟨c,hc,by rw [if_pos rfl,bX,hl];rfl⟩
    ·rw [if_neg ey];rcases h4 y with h | ⟨c1,hy,hs1⟩
     ·exact .inl h
     ·refine .inr ⟨c1,hy,?_⟩;rw [bB _ _ (show c1≠c from fun e=>ey (h3 y x c (by rw [<- e];exact hy) hc))];exact hs1
   ·unfold xG;rw [if_pos e,zP];exact h5
   ·unfold xG;rw [if_pos e,BJ (by rw [hl];rfl),hh y];by_cases ey:y=x
    ·subst ey;rw [if_pos rfl,hl];rfl
    ·rw [if_neg ey]
theorem LQ {Tb:World->Prop} (hA:dS Tb) {Q:Nat->Prop} {w:World} {p:Nat} {S:fH} (h:wM Q w p S) (x s:ByteArray) (hx:x.size<=140737488355328) (hs:s.size<=140737488355328) (hm:∀ r ∈ S,r.2.length<=60) (hT:Tb w) :
  Calls Tryz.prog 27 #[.pointer (some ⟨p,0,none⟩),.string x,.string s] w fun e w'=>Below w.heap.size w w'/\∃ A c,e=.returned (.tuple #[.slice A (dI S x s).length c,.int .i64 (eB S x s)])/\w'.ownsRow w.heap.size 9 1 (.slice A (dI S x s).length c) (dI S x s).length ((dI S x s).map fun t=>.string (vW t)):=by
 obtain ⟨L,m,n,D,lf,vf,xf,h1,h2,h3,h4,h5,hh⟩:=h
 have hlk:∀ c:Nat,qC D x=.lit (.int .i64 c)->iA S x=some (lf c):=fun c hc=>by
  rcases h4 x with ⟨_,h⟩ | ⟨c',hc',h⟩
  ·rw [hc] at h;cases h
  ·rw [hc] at hc';obtain rfl:=sI hc';exact h
 have hno:∀ (w':World) (e:Int),eB S x s=e->e≠0->∃ A c,Ending.returned (.tuple #[.slice none 0 0,.int .i64 e])=.returned (.tuple #[.slice A (dI S x s).length c,.int .i64 (eB S x s)])/\w'.ownsRow w.heap.size 9 1 (.slice A (dI S x s).length c) (dI S x s).length ((dI S x s).map fun t=>.string (vW t)):=fun w' e h1 h2=>by
  have:dI S x s=[]:=by unfold dI;rw [if_neg (by rw [h1];exact h2)]
  rw [this,h1];exact ⟨none,0,rfl,World.ownsRow_nil _ _ _ _⟩
 refine (SQ hA p m n 13 D (fun c=>dU 5 0 ByteArray.empty (lf c) []) x s w hs hx h1.CW (fun c hc=>?_) (by omega) hT).mono ?_
 ·refine ⟨h1.coll hc,by rw [cK];have:=hm _ (ow (hlk c hc));simp only at this;omega,fun i hi=>?_⟩;have hi':i<(lf c).length:=hi;have e:elt (dU 5 0 ByteArray.empty (lf c) []) i=(lf c)[i]:=by rw [pO,List.getD_eq_getElem?_getD,List.getElem?_eq_getElem hi'];rfl
  rw [e];exact ((h1.col x c hc).doc i hi').1
 ·rintro e w' ⟨hb,⟨h6,rfl⟩ | ⟨h6,h7,rfl⟩ | ⟨h6,h7,h8,rfl⟩ | ⟨h6,h7,c,hc,sv,rfl,hO⟩⟩
  ·exact ⟨hb,hno w' _ (by unfold eB;rw [if_pos h6]) h6⟩
  ·exact ⟨hb,hno w' 8 (by unfold eB;rw [if_neg (by rw [h6];simp),if_pos h7]) (by decide)⟩
  ·have hnone:iA S x=none:=by
    rcases h4 x with ⟨h,_⟩ | ⟨c',h,_⟩
    ·exact h
    ·rw [h8] at h;cases h
   exact ⟨hb,hno w' 10 (by unfold eB;rw [if_neg (by rw [h6];simp),if_neg (by rw [h7];simp),hnone];rfl) (by decide)⟩
  ·have hl:=hlk c hc;have e0:eB S x s=0:=by unfold eB;rw [if_neg (by rw [h6];simp),if_neg (by rw [h7];simp),hl];rfl
   have e:SL s (dU 5 0 ByteArray.empty (lf c) [])=dI S x s:=by
    unfold SL dI;rw [cK,yC _ _ _ _ _ _ _ (Nat.le_refl _),List.take_length,if_pos e0,hl];rfl
   rw [e] at hO;rw [e0];obtain ⟨A,cp,rfl⟩:=o8 hO;exact ⟨hb,A,cp,rfl,hO⟩
theorem Jg {Tb:World->Prop} (hA:dS Tb) {Q:Nat->Prop} {B:Nat} {w:World} {p:Nat} {S:fH} (h:wM Q w p S) (hQB:∀ b,b<w.heap.size->Q b->B<=b) (x s:ByteArray) (hx:x.size<=140737488355328) (hs:s.size<=140737488355328) (hm:∀ r ∈ S,r.2.length<=60) (hT:∀ w',Below B w w'->Tb w') :
  Calls Tryz.prog 31 #[.pointer (some ⟨p,0,none⟩),.string x,.string s] w fun e w'=>e=.returned (.tuple #[.int .i64 (dI S x s).length,.int .i64 (eB S x s)])/\aP Q w w'/\wM Q w' p (ze S x s):=by
 have H:=h;obtain ⟨L,m,n,D,lf,vf,xf,h1,h2,h3,h4,h5,hh⟩:=h
 have hlk:∀ y (c:Nat),qC D y=.lit (.int .i64 c)->iA S y=some (lf c):=fun y c hc=>by
  rcases h4 y with ⟨_,h⟩ | ⟨c',hc',h⟩
  ·rw [hc] at h;cases h
  ·rw [hc] at hc';obtain rfl:=sI hc';exact h
 have h1':uD L w p m n D (fun c=>if (lf c).length<=1000000 then lf c else []) vf xf:=by
  refine ⟨h1.CW,h1.lp,h1.lm,h1.low,fun y c' hy=>?_⟩;rw [if_pos (by have:=hm _ (ow (hlk y c' hy));simp only at this;omega)];exact h1.col y c' hy
 have hno:∀ e:Int,eB S x s=e->e≠0->(dI S x s).length=0/\ze S x s=S:=fun e h1 h2=>by
  unfold dI ze;rw [if_neg (by rw [h1];exact h2),if_neg (by rw [h1];exact h2)];exact ⟨rfl,rfl⟩
 refine (Jd hA L B p m n D _ vf xf x s w hs hx h1' (fun b hb=>hQB b (h1.low b hb) (h2 b hb)) (fun c=>?_) hT).mono ?_
 ·show (if (lf c).length<=1000000 then lf c else []).length<=1000000;split
  ·assumption
  ·simp
 ·rintro e w' (⟨hb,h6,rfl⟩ | ⟨hb,h6,h7,rfl⟩ | ⟨hb,h6,h7,h8,rfl⟩ | ⟨h6,h7,c,hc,w1,nn,b1,rfl,hr⟩)
  ·have e:=hno (eJ s) (by unfold eB;rw [if_pos h6]) h6;exact ⟨by rw [e.1];unfold eB;rw [if_pos h6];rfl,aP.of hb,by rw [e.2];exact H.keep hb⟩
  ·have e0:eB S x s=8:=by unfold eB;rw [if_neg (by rw [h6];simp),if_pos h7]
   have e:=hno 8 e0 (by decide);exact ⟨by rw [e.1,e0];rfl,aP.of hb,by rw [e.2];exact H.keep hb⟩
  ·have hnone:iA S x=none:=by
    rcases h4 x with ⟨h,_⟩ | ⟨c',h,_⟩
    ·exact h
    ·rw [h8] at h;cases h
   have e0:eB S x s=10:=by unfold eB;rw [if_neg (by rw [h6];simp),if_neg (by rw [h7];simp),hnone];rfl
   have e:=hno 10 e0 (by decide);exact ⟨by rw [e.1,e0];rfl,aP.of hb,by rw [e.2];exact H.keep hb⟩
  ·have hl:=hlk x c hc;have hle:(lf c).length<=1000000:=by have:=hm _ (ow hl);simp only at this;omega
   simp only [if_pos hle] at hr;have e0:eB S x s=0:=by unfold eB;rw [if_neg (by rw [h6];simp),if_neg (by rw [h7];simp),hl];rfl
   obtain ⟨v',ys,hst,hB⟩:=h1.rem hc b1 hr;have hco:=h1.col x c hc;have hcB:=h2 c (by rw [hco.lab];omega)
   have en:nn=((lf c).length:Int) - (((lf c).filter fun t=>!(dN 16 (tJ s) t)).length:Int):=by
    have:=hr.1;simpa using this
   have el:∀ l:List T,l.length=(l.filter (dN 16 (tJ s))).length+(l.filter fun t=>!(dN 16 (tJ s) t)).length:=fun l=>by
    induction l with
    | nil=>rfl
    | cons a l ih=>cases h:dN 16 (tJ s) a<;>simp [h,ih]<;>omega
   have ec:nn=((dI S x s).length:Int):=by
    have:=el (lf c);unfold dI;rw [if_pos e0,hl,en];simp only [Option.getD_some];omega
   refine ⟨by rw [ec,e0],aP.after b1 (hB.q hcB (fun b e=>h2 b (by rw [hco.fP b e];omega))),L,m,n,D,_,_,_,hst,h2,h3,fun y=>?_,?_,fun y=>?_⟩
   ·unfold ze;rw [if_pos e0,BJ (by rw [hl];rfl)];by_cases ey:y=x
    ·subst ey;exact .inr ⟨c,hc,by rw [if_pos rfl,bX,hl];rfl⟩
    ·rw [if_neg ey];rcases h4 y with h | ⟨c1,hy,hs1⟩
     ·exact .inl h
     ·refine .inr ⟨c1,hy,?_⟩;rw [bB _ _ (show c1≠c from fun e=>ey (h3 y x c (by rw [<- e];exact hy) hc))];exact hs1
   ·unfold ze;rw [if_pos e0,zP];exact h5
   ·unfold ze;rw [if_pos e0,BJ (by rw [hl];rfl),hh y];by_cases ey:y=x
    ·subst ey;rw [if_pos rfl,hl];rfl
    ·rw [if_neg ey]
theorem BN (x:ByteArray) (w:World):Calls Tryz.prog 209 #[.string x] w fun e w'=>e=.returned (.bool (qI x))/\w'=w:=by
 by_cases h0:x.size=0
 ·obtain rfl:x=ByteArray.empty:=by
   apply ByteArray.ext;exact Array.eq_empty_of_size_eq_zero h0
  have hq:(ByteArray.empty.toList==[])=true:=aT (a:=ByteArray.empty) (b:=ByteArray.empty) rfl;have HE:Hid (qI ByteArray.empty=false):=rfl;clear h0;go_in;go_wp2_with fail;go_ret;exact ⟨by rw [HE.out];rfl,rfl⟩
 ·have hq:(x.toList==[])=false:=au (b:=ByteArray.empty) (fun h=>h0 (by rw [h];rfl));have hz:0<x.size:=by omega
  obtain ⟨c,hc⟩:∃ c,x[0]'hz=c:=⟨_,rfl⟩
  have HE:Hid (qI x=(c==36)):=by
   show _=_;unfold qI Lib.hasPrefix;obtain ⟨⟨l⟩⟩:=x;cases l with
   | nil=>exact absurd hz (by decide)
   | cons a r =>
    have:a=c:=hc;subst this;show ((36:UInt8)==a&&List.isPrefixOf [] r)=_;simp [BEq.comm]
  have hx:(0:Int)<(x.size:Int):=by omega
  cases hb:c==36 with
  | true =>
   rw [hb] at HE;obtain rfl:c=36:=by simpa using hb
   clear hb h0;go_in;go_wp2_with fail;go_ret;exact ⟨by rw [HE.out];rfl,rfl⟩
  | false =>
   rw [hb] at HE
   have hn:((c.toNat:Int)==36)=false:=by
    simp only [beq_eq_false_iff_ne,ne_eq] at hb ⊢;intro h;exact hb (UInt8.toNat_inj.1 (by show c.toNat=36;omega))
   clear hb h0;go_in;go_wp2_with fail;go_ret;exact ⟨by rw [HE.out];rfl,rfl⟩
theorem BO (f:Nat) (v:Value) (t:T) (w:World) (h:At w f v t):Calls Tryz.prog 210 #[v] w fun e w'=>e=.returned (.bool (decide (iQ t)))/\Below w.heap.size w w':=by
 obtain ⟨g,La,Ka,Lc,Kc,rfl,rfl,hf,hl,hk⟩:=h.open;have HB1:Hid (Below w.heap.size w (w.alloc (.cells #[.int .i64 (ah t),.int .i64 (aB t),.string (aF t),.slice La (nL t) Lc,.slice Ka (nK t) Kc] 25))):=(Below.refl _ _).alloc (Nat.le_refl _) _;have HX:Hid (∀ b,(iQ t ↔ b=true)->decide (iQ t)=b):=fun b hb=>by cases b<;>simp_all
 cases k6:ah t==6 with
 | false =>
  have HE:Hid (decide (iQ t)=false):=HX.out false ⟨fun q=>(by rw [q.1] at k6;cases k6),fun h=>by cases h⟩;clear HX h hf hl hk;go_in;go_wp2_with fail;go_ret;exact ⟨by rw [HE.out];rfl,HB1.out⟩
 | true =>
  have UK:ah t=6:=by simpa using k6
  by_cases hn:0<nK t
  ·obtain ⟨b,o,rfl,hbl,hs,q⟩:=hk.out 0 hn;have q':=(HB1.out.cell (p:=⟨b,o,none⟩) hbl).trans (show w.cell? ⟨b,o,none⟩=some (.string (bf t 0)) from q);have hn':(0:Int)<(nK t:Int):=by omega
   have HE:Hid (decide (iQ t)=qI (bf t 0)):=HX.out _ ⟨fun q=>q.2.2,fun q=>⟨UK,hn,q⟩⟩;have HD:=aj (fun w=>BN (bf t 0) w);generalize bf t 0=x at HE HD q';clear HX h hf hl hk q hs hbl UK;go_in;go_wp2_with fail;refine (HD.out _).mono ?_;rintro e w2 ⟨rfl,hw⟩;rw [hw];clear hw w2;cases hb:qI x with
   | true =>
    rw [hb] at HE;clear hb HD;go_wp2_with fail;go_ret;exact ⟨by rw [HE.out];rfl,HB1.out⟩
   | false =>
    rw [hb] at HE;clear hb HD;go_wp2_with fail;go_ret;exact ⟨by rw [HE.out];rfl,HB1.out⟩
  ·have hn':¬ (0:Int)<(nK t:Int):=by omega
   have HE:Hid (decide (iQ t)=false):=HX.out false ⟨fun q=>(hn q.2.1).elim,fun h=>by cases h⟩;clear HX h hf hl hk UK hn;go_in;go_wp2_with fail;go_ret;exact ⟨by rw [HE.out];rfl,HB1.out⟩
def LU (f:Nat):Prop:=∀ (m:Nat) (v:Value) (t:T) (w:World),At w f v t->f<=m->dZ t->Calls Tryz.prog 211 #[v] w fun e w'=>e=.returned (.bool (dR m t))/\Below w.heap.size w w'
theorem FT (f:Nat) (ih:LU f):LU (f+1):=by
 intro m v t w h hm hok;obtain ⟨g,La,Ka,Lc,Kc,hg,rfl,hf,hl,hk⟩:=h.open;obtain rfl:f=g:=by omega
 obtain ⟨m,rfl⟩:∃ m',m=m'+1:=⟨m - 1,by omega⟩;have HB1:Hid (Below w.heap.size w (w.alloc (.cells #[.int .i64 (ah t),.int .i64 (aB t),.string (aF t),.slice La (nL t) Lc,.slice Ka (nK t) Kc] 25))):=(Below.refl _ _).alloc (Nat.le_refl _) _;have HX:Hid (dR (m+1) t=((ah t==6&&decide (0<nK t))&&eO (fun i=>gX (dR m) (bf t i) (elt t i)) (nK t))):=rfl;cases k6:ah t==6 with
 | false =>
  have HE:Hid (dR (m+1) t=false):=by show _=_;rw [HX.out,k6];rfl
  have UK:(ah t != 6)=true:=by rw [bne,k6];rfl
  clear HX h hf hl hk hg hm hok ih k6;go_in;go_wp2_with fail;go_ret;exact ⟨by rw [HE.out];rfl,HB1.out⟩
 | true =>
  have e6:ah t=6:=by simpa using k6
  have hnl:=hok.names e6;have hsm:=hok.small.1;have UK:(ah t != 6)=false:=by rw [bne,k6];rfl
  by_cases hn:nK t=0
  ·have HE:Hid (dR (m+1) t=false):=by show _=_;rw [HX.out,hn];simp
   have hn':((nK t:Int)==0)=true:=by rw [hn];rfl
   clear HX h hf hl hk hg hm hok ih k6 e6 hnl hn;go_in;go_wp2_with fail;go_ret;exact ⟨by rw [HE.out];rfl,HB1.out⟩
  ·have HE:Hid (dR (m+1) t=eO (fun i=>gX (dR m) (bf t i) (elt t i)) (nK t)):=by
    show _=_;rw [HX.out,k6,decide_eq_true (by omega)];rfl
   have hn':((nK t:Int)==0)=false:=by simp;omega
   have sN:=aj ih;have gT:=aj hok;have LV:=aj hm
   have HF:Hid (∀ k,k<nK t->gX (dR m) (bf t k) (elt t k)=false->dR (m+1) t=false):=fun k hk h1=>by
    rw [HE.out];exact nP (i:=k) h1 _ hk
   clear HX h hf hg hm hok ih k6 e6 hn;obtain ⟨n,hnn⟩:∃ n,nK t=n:=⟨_,rfl⟩;rw [hnn] at HE HF hnl hsm hn';have Hn:=aj hnn;have Hnl:=aj hnl;rw [hnn] at HB1 ⊢;clear hnn hnl;go_in;go_wp2_with fail;go_loopg [3] n (fun g i wr=>∃ k:Nat,g=n - k/\k<=n/\i=.int .i64 k/\Hid (Below (w.heap.size+1) (w.alloc (.cells #[.int .i64 (ah t),.int .i64 (aB t),.string (aF t),.slice La (nL t) Lc,.slice Ka n Kc] 25)) wr)/\Hid (eO (fun i=>gX (dR m) (bf t i) (elt t i)) k=true))
   case atStart=>exact ⟨0,rfl,Nat.zero_le _,rfl,Below.refl _ _,rfl⟩
   case round =>
    obtain ⟨k,rfl,hkn,rfl,nA,HA⟩:=hrel;obtain ⟨q0,q1,q2,q3,q4,hz,hbw⟩:=aI nA.out;have dH:=aj hbw;by_cases hlt:k<n
    ·obtain ⟨b,o,c0,c1,c2,c3,c4,rfl,hbl,p0,p1,p2,p3,p4,Ha⟩:=hl.out.keep hbw k (by have:=Hnl.out;omega);obtain ⟨b2,o2,rfl,hb2,hs2,p5⟩:=hk.out.keep hbw k (by rw [Hn.out];exact hlt);obtain ⟨j,hj⟩:∃ j,elt t k=j:=⟨_,rfl⟩;obtain ⟨op,hop⟩:∃ op,bf t k=op:=⟨_,rfl⟩;have hkj:dZ j:=by rw [<- hj];exact gT.out.elt (by have:=Hnl.out;omega)
     rw [hj] at Ha;rw [hop] at p5;have VE:=Ha;obtain ⟨g2,JA,JC,JB,JD,hg2,hag,_,_,_⟩:=Ha.out.open;simp only [Value.agg.injEq,Array.mk.injEq,List.cons.injEq,and_true] at hag;obtain ⟨rfl,rfl,rfl,rfl,rfl⟩:=hag;have HC:Hid (∀ w2:World,Below wr.heap.size wr w2->Calls Tryz.prog 211 #[.agg #[.int .i64 (ah j),.int .i64 (aB j),.string (aF j),.slice JA (nL j) JB,.slice JC (nK j) JD]] w2 fun e w'=>e=.returned (.bool (dR m j))/\Below w2.heap.size w2 w'):=fun w2 hb=>sN.out m _ j w2 (At.keep hb VE.out) (by have:=LV.out;omega) hkj;have LW:Hid (∀ ob:Obj,Below (w.heap.size+1) (w.alloc (.cells #[.int .i64 (ah t),.int .i64 (aB t),.string (aF t),.slice (some ⟨b,o,none⟩) (nL t) Lc,.slice (some ⟨b2,o2,none⟩) n Kc] 25)) (wr.alloc ob)):=fun ob=>nA.out.alloc (by have:=nA.out.size;simp at this;omega) ob;have sS:Hid (∀ w2:World,Below wr.heap.size wr w2->Below w.heap.size w w2):=fun w2 hb=>dH.out.trans (hb.mono dH.out.size);have NV:Hid (∀ ob:Obj,Below wr.heap.size wr (wr.alloc ob)):=fun ob=>(Below.refl _ _).alloc (Nat.le_refl _) _;have p6:=((NV.out (.cells #[.int .i64 (ah j),.int .i64 (aB j),.string (aF j),.slice JA (nL j) JB,.slice JC (nK j) JD] 25)).cell (p:=⟨b2,o2+k,none⟩) hb2).trans p5;have x1:(k:Int)<(n:Int):=by omega
     have x2:(k:Int)<(nL t:Int):=by have:=Hnl.out;omega
     have HA2:Hid (gX (dR m) op j=true->eO (fun i=>gX (dR m) (bf t i) (elt t i)) (k+1)=true):=fun h=>by rw [eO,HA.out,hop,hj,h];rfl
     have ru:Hid (gX (dR m) op j=false->dR (m+1) t=false):=fun h=>HF.out k hlt (by rw [hop,hj];exact h);clear hj hop hkj hg2 hs2 hbl Ha VE hlt hbw p5;cases hR:gX (dR m) op j with
     | true =>
      have oM:=aj (HA2.out hR);by_cases hi:ji op
      ·obtain ⟨hp,d1,d2,d3,d4,d5,hw⟩:=zH hi;obtain ⟨e1,e2,e3,e4,e5,e6⟩:=mV hp;rw [KR hi] at hR;rw [hR] at HC;clear hp hi hR;rcases hw with d6 | ⟨d6,d7⟩
       all_goals
        go_wp2_with fail;refine (HC.out _ (NV.out _)).mono ?_;rintro e w2 ⟨rfl,b2'⟩;have HB2:=aj ((LW.out _).trans (b2'.mono (by simp;omega)));clear b2' HC;go_wp2_with fail;go_roundg (n - (k+1))
        case rel=>exact ⟨k+1,rfl,by omega,by go_num,HB2,oM⟩
        case measure=>omega
      ·by_cases hp:gL op
       ·have hw:=Eb hp;clear hp hi hR HC;rcases hw with e | ⟨e,e1⟩ | ⟨e,e1,e2⟩ | ⟨e,e1,e2,e3⟩ | ⟨e,e1,e2,e3,e4⟩ | ⟨e,e1,e2,e3,e4,e5⟩
        all_goals
         go_wp2_with fail;go_roundg (n - (k+1))
         case rel=>exact ⟨k+1,rfl,by omega,by go_num,aj (LW.out _),oM⟩
         case measure=>omega
       ·obtain ⟨e,e1,e2,e3,e4,e5⟩:=mV hp;have hw:=Sm hp hi hR;clear hp hi hR HC;rcases hw with ⟨a,y⟩ | ⟨a,a2,y⟩ | ⟨a,a2,a3,y⟩ | ⟨a,a2,a3,a4,y,y1⟩ | ⟨a,a2,a3,a4,e6,y,y1,y2⟩
        all_goals
         go_wp2_with fail;go_roundg (n - (k+1))
         case rel=>exact ⟨k+1,rfl,by omega,by go_num,aj (LW.out _),oM⟩
         case measure=>omega
     | false =>
      have vg:=aj (ru.out hR);by_cases hi:ji op
      ·obtain ⟨hp,d1,d2,d3,d4,d5,hw⟩:=zH hi;obtain ⟨e1,e2,e3,e4,e5,e6⟩:=mV hp;rw [KR hi] at hR;rw [hR] at HC;clear hp hi hR;rcases hw with d6 | ⟨d6,d7⟩
       all_goals
        go_wp2_with fail;refine (HC.out _ (NV.out _)).mono ?_;rintro e w2 ⟨rfl,b2'⟩;have HB2:=aj (sS.out _ ((NV.out _).trans (b2'.mono (NV.out _).size)));clear b2' HC;go_wp2_with fail;go_ret;exact ⟨by rw [vg.out];rfl,HB2.out⟩
      ·have hp:¬ gL op:=fun hp=>by unfold gX at hR;rw [if_pos hp] at hR;cases hR
       obtain ⟨e,e1,e2,e3,e4,e5⟩:=mV hp;have hw:=Sq hp hi hR;clear hp hi hR HC;rcases hw with ⟨a,y⟩ | ⟨a,a2,y⟩ | ⟨a,a2,a3,y⟩ | ⟨a,a2,a3,a4,y | ⟨y,y1⟩⟩ | ⟨a,a2,a3,a4,e6,y | ⟨y,y1⟩ | ⟨y,y1,y2⟩⟩ | ⟨a,a2,a3,a4,e6,e7,e8⟩
       all_goals
        go_wp2_with fail;go_ret;exact ⟨by rw [vg.out];rfl,sS.out _ (NV.out _)⟩
    ·obtain rfl:k=n:=by omega
     have x1:¬ (k:Int)<(k:Int):=by omega
     clear hlt;go_wp2_with fail;go_ret;exact ⟨by rw [HE.out,HA.out];rfl,dH.out⟩
theorem yE:∀ f,LU f
 | 0=>fun _ _ _ _ h _ _=>h.elim
 | f+1=>FT f (yE f)
abbrev zf:ByteArray:=⟨#[46]⟩
theorem Jh {s:ByteArray} (h:Lib.indexB s zf=-1):aU s=[s]:=Lib.splitB_miss _ _ _ _ h
theorem LX {s:ByteArray} {i:Nat} (h:Lib.indexB s zf=i):aU s=s.extract 0 i::aU (s.extract (i+1) s.size):=by
 unfold aU;rw [Lib.countB_hit s zf i (by decide) h,Nat.add_comm,Lib.splitB_hit _ _ _ _ i h];rfl
theorem Tg (p:ByteArray) {a b:Nat}:(p.extract a p.size).extract b (p.extract a p.size).size=p.extract (a+b) p.size:=by
 apply ByteArray.ext;apply Array.ext';rw [Lib.extract_to_end,Lib.extract_to_end,Lib.extract_to_end,List.drop_drop]
theorem Ti (p:ByteArray) {a b:Nat} (h:a+b<=p.size):(p.extract a p.size).extract 0 b=p.extract a (a+b):=by
 rw [ByteArray.extract_extract]
 congr 1
 omega
theorem NW (p:ByteArray) {a b:Nat} (h:a+b<p.size):((p.extract a p.size).extract b (b+1)).toList=[p[a+b]]:=by
 rw [ByteArray.extract_extract,ByteArray.toList_eq,show min (a+(b+1)) p.size=a+b+1 by omega];have hl:a+b<p.data.toList.length:=by simpa using h
 have e:(p.extract (a+b) (a+b+1)).data.toList=(p.data.toList.drop (a+b)).take 1:=by simp
 rw [e,List.drop_eq_getElem_cons hl];simp [ByteArray.getElem_eq_getElem_data]
theorem Ji:zf.toList=[46]:=by rw [ByteArray.toList_eq]
theorem VF {p:ByteArray} {a b:Nat} (hno:Lib.NoOccB (p.extract a p.size) zf b) (h:a+b<p.size) (hd:p[a+b]=46):aU (p.extract a p.size)=p.extract a (a+b)::aU (p.extract (a+b+1) p.size):=by
 have hz:(p.extract a p.size).size=p.size - a:=by simp
 have hi:=Lib.hit (p.extract a p.size) zf b hno (by rw [hz];show b+1<=_;omega) (by
  show (((p.extract a p.size).extract b (b+1)).toList==_)=true;rw [NW p h,hd,Ji];rfl)
 rw [LX hi,Ti p (by omega),Tg p (b:=b+1)];rfl
theorem Tj {p:ByteArray} {a b:Nat} (hno:Lib.NoOccB (p.extract a p.size) zf b) (h:a+b<p.size) (hd:p[a+b]≠46):Lib.NoOccB (p.extract a p.size) zf (b+1):=by
 have hz:(p.extract a p.size).size=p.size - a:=by simp
 refine Lib.miss_piece (p.extract a p.size) zf b hno (by rw [hz];show b+1<=_;omega) ?_;show (((p.extract a p.size).extract b (b+1)).toList==_)=false;rw [NW p h,Ji];simpa using hd
theorem VG {p:ByteArray} {a b:Nat} (hno:Lib.NoOccB (p.extract a p.size) zf b) (h:a+b=p.size):aU (p.extract a p.size)=[p.extract a p.size]:=by
 have hz:(p.extract a p.size).size=p.size - a:=by simp
 exact Jh (Lib.past (p.extract a p.size) zf b hno (by decide) (by rw [hz];show _<b+1;omega))
end Go.Proofs.YtknakfpciccoaaaGreatDoor
