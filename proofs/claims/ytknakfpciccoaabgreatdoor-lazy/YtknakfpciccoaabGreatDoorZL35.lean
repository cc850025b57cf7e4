import Derived.Test.YtknakfpciccoaabGreatDoorZL25
import Derived.Test.YtknakfpciccoaabGreatDoorZL21
import Derived.Test.YtknakfpciccoaabGreatDoorZL30
import Derived.Test.YtknakfpciccoaabGreatDoorZL27
import Derived.Test.YtknakfpciccoaabGreatDoorZL34
import Derived.Test.YtknakfpciccoaabGreatDoorZL22
import Derived.Test.YtknakfpciccoaabGreatDoorZL26
import Derived.Test.YtknakfpciccoaabGreatDoorZL24
import Derived.Test.YtknakfpciccoaabGreatDoorZL33
/- filled: a store with documents out of raw numbers. -/
set_option maxHeartbeats 8000000
set_option maxRecDepth 100000
namespace Go.Proofs.YtknakfpciccoaabGreatDoor
open Go.RowKit
def Xl (w:World) (v:Value) (n:Nat):Prop :=
 ∃ A c,v=.slice A n c/\n<=1000000000000000/\∀ i,i<n->∃ b o z,A=some ⟨b,o,none⟩/\b<w.heap.size/\w.cell? ⟨b,o+i,none⟩=some (.int .i64 z)/\-9223372036854775808<=z/\z<=9223372036854775807
def kI (l:List T):Prop:=∀ k,(h:k<l.length)->∃ i o,i<36/\(∀ j,o=some j->j<36)/\l[k]=dY (k:Int) i o
theorem kI.nil:kI []:=fun k h=>absurd h (Nat.not_lt_zero k)
theorem kI.snoc {l:List T} (h:kI l) {i:Nat} {o:Option Nat} (hi:i<36) (ho:∀ j,o=some j->j<36):kI (l++[dY (l.length:Int) i o]):=by
 intro k hk;rw [List.length_append,List.length_cons,List.length_nil] at hk;by_cases e:k<l.length
 ·obtain ⟨a,b,c,d,e1⟩:=h k e;exact ⟨a,b,c,d,by rw [List.getElem_append_left e];exact e1⟩
 ·obtain rfl:k=l.length:=by omega
  exact ⟨i,o,hi,ho,by rw [List.getElem_append_right (by omega)];simp⟩
theorem Fw {p:T->Bool} {t:T}:∀ k,(∀ i,i<k->p (elt t i)=false)->cZ p t k=false
 | 0,_=>rfl
 | k+1,h=>by
  rw [cZ,Fw k (fun i hi=>h i (by omega)),h k (by omega)];rfl
theorem kI.fresh {l:List T} (h:kI l) (i:Nat) (o:Option Nat):cZ (jP (RV (dY (l.length:Int) i o))) (aX 5 0 ByteArray.empty l []) l.length=false:=by
 refine Fw _ fun k hk=>?_;have e:elt (aX 5 0 ByteArray.empty l []) k=l[k]:=by rw [iR,List.getD_eq_getElem?_getD,List.getElem?_eq_getElem hk];rfl
 obtain ⟨a,b,_,_,e1⟩:=h k hk;rw [e,e1,P9,VU];simp;omega
abbrev nX:ByteArray:=⟨#[120]⟩
abbrev nY:ByteArray:=⟨#[121]⟩
def vP (l m:Option (List T)):ByteArray->Option (List T):=zG (zG (fun _=>none) nX l) nY m
theorem Xm (l m:Option (List T)):vP l m nX=l:=by unfold vP;rw [dU _ _ (by decide),gX]
theorem agf (l m:Option (List T)):vP l m nY=m:=by unfold vP;rw [gX]
theorem K9 (l m:Option (List T)) {z:ByteArray} (h1:z≠nX) (h2:z≠nY):vP l m z=none:=by unfold vP;rw [dU _ _ h2,dU _ _ h1]
theorem Xn (l m k:Option (List T)):zG (vP l m) nX k=vP k m:=by
 funext z
 unfold vP;by_cases h1:z=nX
 ·subst h1;rw [gX,dU _ _ (by decide),gX]
 ·rw [dU _ _ h1];by_cases h2:z=nY
  ·subst h2;rw [gX,gX]
  ·rw [dU _ _ h2,dU _ _ h1,dU _ _ h2,dU _ _ h1]
theorem Xo (l m k:Option (List T)):zG (vP l m) nY k=vP l k:=by
 funext z
 unfold vP;by_cases h2:z=nY
 ·subst h2;rw [gX,gX]
 ·rw [dU _ _ h2,dU _ _ h2,dU _ _ h2]
theorem ZX (l:Option (List T)):zG (zG (fun _=>none) nX l) nY (some [])=vP l (some []):=rfl
abbrev Lb:ByteArray:=⟨#[123,125]⟩
theorem Ov:eJ Lb=0:=by kernel_rfl
theorem Xp:tJ Lb=aX 6 0 ByteArray.empty [] []:=by kernel_rfl
theorem Ig:bH 16 (tJ Lb)=true:=by rw [Xp];kernel_rfl
theorem ZY (d:T):gy 16 (tJ Lb) d=true:=by rw [Xp];rfl
theorem Ow (l:List T):l.filter (gy 16 (tJ Lb))=l:=by
 rw [List.filter_eq_self];exact fun a _=>ZY a
theorem Xq (a b:Int):(kR a b<0 ↔ a<b)/\(kR a b=0 ↔ a=b):=by
 unfold kR;constructor
 ·split
  ·omega
  ·split<;>omega
 ·split
  ·omega
  ·split<;>omega
theorem Fx (g:T->List UInt8) (ts:List T) (t:T):∀ k,k<=ts.length->fq g (aX 5 0 ByteArray.empty (ts++[t]) []) k=fq g (aX 5 0 ByteArray.empty ts []) k
 | 0,_=>rfl
 | k+1,h=>by
  have e:elt (aX 5 0 ByteArray.empty (ts++[t]) []) k=elt (aX 5 0 ByteArray.empty ts []) k:=by
   rw [iR,iR,List.getD_eq_getElem?_getD,List.getD_eq_getElem?_getD,List.getElem?_append_left (by omega)]
  rw [fq,fq,Fx g ts t k (by omega),e]
structure Ch (f:Nat) (ts:List T) (u:ByteArray) (n:Nat):Prop where
 wr:u.data.toList=fq (dG f) (aX 5 0 ByteArray.empty ts []) ts.length
 fit:∀ t ∈ ts,GL (f+1) t
 good:∀ t ∈ ts,fJ f t
 can:∀ t ∈ ts,dS f t=t
 size:u.size<=n
theorem Ch.one {f:Nat} {t:T} {s:ByteArray} {n:Nat} (h:nG f t s n):Ch f [t] s n:=by
 refine ⟨?_,fun x hx=>?_,fun x hx=>?_,fun x hx=>?_,h.size⟩
 ·rw [h.wr];show _=([]++([]++dG f t));simp
 ·obtain rfl:x=t:=by simpa using hx
  exact h.fit
 ·obtain rfl:x=t:=by simpa using hx
  exact h.good
 ·obtain rfl:x=t:=by simpa using hx
  exact h.can
theorem Ch.snoc {f:Nat} {ts:List T} {u:ByteArray} {n:Nat} (h:Ch f ts u n) (hne:ts≠[]) {t:T} {s:ByteArray} {m:Nat} (g:nG f t s m) {u':ByteArray} (hu:u'.data.toList=u.data.toList++(44::s.data.toList)):Ch f (ts++[t]) u' (n+m+1):=by
 have hm:∀ x ∈ ts++[t],x ∈ ts\/x=t:=fun x hx=>by simpa using hx
 refine ⟨?_,fun x hx=>(hm x hx).elim (h.fit x) (fun e=>by rw [e];exact g.fit),fun x hx=>(hm x hx).elim (h.good x) (fun e=>by rw [e];exact g.good),fun x hx=>(hm x hx).elim (h.can x) (fun e=>by rw [e];exact g.can),?_⟩
 ·have hl:(ts++[t]).length=ts.length+1:=by simp
  have e:elt (aX 5 0 ByteArray.empty (ts++[t]) []) ts.length=t:=by rw [iR,List.getD_eq_getElem?_getD];simp
  have h0:¬ ts.length=0:=fun q=>hne (List.eq_nil_of_length_eq_zero q);rw [hu,h.wr,hl,fq,Fx _ _ _ _ (Nat.le_refl _),if_neg h0,e,g.wr];rfl
 ·have h1:u'.size=u'.data.toList.length:=rfl;have h2:u.size=u.data.toList.length:=rfl;have h3:s.size=s.data.toList.length:=rfl;have h4:=h.size;have h5:=g.size;rw [h1,hu];simp only [List.length_cons,List.length_append];omega
theorem Xr {f:Nat} {ts:List T} (h:∀ t ∈ ts,dS f t=t):dS (f+1) (aX 5 0 ByteArray.empty ts [])=aX 5 0 ByteArray.empty ts []:=by
 show aX 5 0 ByteArray.empty (ts.map (dS f)) []=_
 have:ts.map (dS f)=ts:=by
  conv=>rhs;rw [<- List.map_id ts]
  exact List.map_congr_left h
 rw [this]
theorem Ch.list {f:Nat} {ts:List T} {u:ByteArray} {n:Nat} (h:Ch f ts u n) (hl:ts.length<=100) {s':ByteArray} (hs:s'.data.toList=91::(u.data.toList++[93])):nG (f+1) (aX 5 0 ByteArray.empty ts []) s' (n+2):=by
 have e:dG (f+1) (aX 5 0 ByteArray.empty ts [])=91::(fq (dG f) (aX 5 0 ByteArray.empty ts []) (nL (aX 5 0 ByteArray.empty ts []))++[93]):=rfl
 have hel:∀ i,i<ts.length->elt (aX 5 0 ByteArray.empty ts []) i ∈ ts:=fun i hi=>by
  rw [iR,List.getD_eq_getElem?_getD,List.getElem?_eq_getElem hi];exact List.getElem_mem hi
 refine ⟨?_,⟨jq (by omega) (by omega) _ _ hl (by simp),fun i hi=>?_,fun i hi=>?_⟩,.inr ⟨rfl,dV _ _ _ _,fun i hi=>?_,.inl ⟨rfl,rfl⟩⟩,Xr h.can,?_⟩
 ·rw [e,hs,h.wr,aI]
 ·rw [aI] at hi;exact h.fit _ (hel i hi)
 ·rw [fE] at hi;exact absurd hi (Nat.not_lt_zero i)
 ·rw [aI] at hi;exact h.good _ (hel i hi)
 ·have h1:s'.size=s'.data.toList.length:=rfl;have h2:u.size=u.data.toList.length:=rfl;have h4:=h.size;rw [h1,hs];simp only [List.length_cons,List.length_append,List.length_nil];omega
def o1 (k:ByteArray) (t:T):T:=aX 6 0 ByteArray.empty [t] [k]
def Ld:ByteArray:=⟨#[36,115,111,114,116]⟩
def Ci:ByteArray:=⟨#[36,115,107,105,112]⟩
def vK:ByteArray:=⟨#[36,108,105,109,105,116]⟩
def jT:ByteArray:=⟨#[36,112,114,111,106,101,99,116]⟩
theorem tZ:lG Ld/\lG Ci/\lG vK/\lG jT/\lG ⟨#[107]⟩:=⟨lG.mk' (by kernel_rfl),lG.mk' (by kernel_rfl),lG.mk' (by kernel_rfl),lG.mk' (by kernel_rfl),lG.mk' (by kernel_rfl)⟩
theorem Xt:((List.range 6).all fun k=>decide (dK (rC k)=34::((rC k).data.toList++[34]))&&zR (rC k)&&decide ((rC k).size<=100))=true:=by kernel_rfl
theorem Z0 {k:Nat} (h:k<6):lG (rC k):=lG.mk' (List.all_eq_true.1 Xt k (List.mem_range.2 h))
theorem Z5:((List.range 6).all fun k=>decide ((rC k).size<=10))=true:=by kernel_rfl
theorem Ox {k:Nat} (h:k<6):(rC k).size<=10:=of_decide_eq_true (List.all_eq_true.1 Z5 k (List.mem_range.2 h))
theorem Qm {n:Int} (h0:0<=n) (h1:n<30) (f:Nat) {s:ByteArray} (hs:s.data.toList=[123,34,36,115,107,105,112,34,58]++((aY (Lib.itoa n)).data.toList++[125])):nG (f+2) (o1 Ci (nT n)) s 30 :=
 ((oZ h0 h1 f).obj tZ.2.1 (s':=s) (by rw [hs];simp [Ci])).le (by show _+5+5<=_;omega)
theorem Qn {n:Int} (h0:0<=n) (h1:n<30) (f:Nat) {s:ByteArray} (hs:s.data.toList=[123,34,36,108,105,109,105,116,34,58]++((aY (Lib.itoa n)).data.toList++[125])):nG (f+2) (o1 vK (nT n)) s 30 :=
 ((oZ h0 h1 f).obj tZ.2.2.1 (s':=s) (by rw [hs];simp [vK])).le (by show _+6+5<=_;omega)
theorem Xu:(Tryz.prog.info? 175).map (fun i=>(i.zero,i.size,i.bytes))=some (some .nilIface,1,16):=by kernel_rfl
def ExE (Tb:World->Prop) (wB:World) (w:World) (X:Nat->Prop) (cs:List Value) (g:T->Int⊕T):Prop:=∃ ty q,cs=[.iface ty q]/\gB wB w X (fun x=>bL Tb x (.iface ty q) g)
theorem jD (Tb:World->Prop) (wB:World):uM (ExE Tb wB):=fun _ _ _ _ _ _ h hb=>by
 obtain ⟨ty,q,h1,h2⟩:=h;exact ⟨ty,q,h1,h2.move hb⟩
theorem ru.off {α:Type} {E:World->(Nat->Prop)->List Value->α->Prop} (hE:uM E) {s:Nat} {e:TypeId} {base:Nat} {hv:Value} {l:List α} {xs:List Value} {wr w1:World} (h:ru E s e base hv l xs wr) (hs:wr.heap.size<=w1.heap.size) (hb:∀ b,base<=b->b<wr.heap.size->w1.heap[b]?=wr.heap[b]?):ru E s e base hv l xs w1 :=
 ⟨iO h.row hb,fun i hi=>hE _ _ _ _ _ _ (h.el i hi) fun b hX=>⟨hb b hX.1 hX.2.1,hX.1,Nat.lt_of_lt_of_le hX.2.1 hs,hX.2.2⟩⟩
theorem Fy {Tb:World->Prop} {wB:World} {base:Nat} {hv:Value} {gs:List (T->Int⊕T)} {xs:List Value} {w wr:World} (h:ru (ExE Tb wB) 1 175 base hv gs xs wr) (hlo:w.heap.size<=base) (hn:gs.length<=1000000):∃ A c,hv=.slice A gs.length c/\gB wB wr (aT w wr) (fun x=>eY Tb x (.slice A gs.length c) gs):=by
 have hrow:=h.row;rcases h.row.2 with ⟨rfl,h0⟩ | ⟨g,cap,cur,rfl,hb0,hgb,_⟩
 ·exact ⟨none,0,by rw [h0],gB.all fun w' _=>⟨none,0,rfl,hn,fun i hi=>by omega⟩⟩
 ·have hgl:=(Array.getElem?_eq_some_iff.1 hgb).1;refine ⟨some ⟨g,0,none⟩,cap,rfl,aT w wr,fun b hb=>⟨hb,hb.2⟩,fun w' hw hy=>⟨_,_,rfl,hn,fun i hi=>?_⟩⟩;obtain ⟨ty,q,hc,hs⟩:=h.el i hi;have c0:=aW hrow (oF (r:=0) (by rw [hc];rfl) (by omega));have hgw:w'.heap[g]?=wr.heap[g]?:=hy g ⟨by omega,hgl⟩;refine ⟨g,0,.iface ty q,rfl,lU hgl hgw,?_,?_⟩
  ·rw [aC hgw,Nat.zero_add];rw [Nat.mul_one,Nat.add_zero] at c0;exact c0
  ·obtain ⟨Y,h1,h2⟩:=hs;exact h2 w' hw fun b hb=>hy b (KO hlo (h1 b hb).1)
structure LV (b:Nat) (nl nk o:Value) (w:World):Prop where
 q3:w.cell? ⟨b,3,none⟩=some nl
 q4:w.cell? ⟨b,4,none⟩=some nk
 p0:w.cell? ⟨b+2,0,none⟩=some (.slice none 0 0)
 p1:w.cell? ⟨b+2,1,none⟩=some nk
 p2:w.cell? ⟨b+2,2,none⟩=some o
 pf:w.frozen? ⟨b+2,2,none⟩=false
 r0:w.cell? ⟨b+1,0,none⟩=some (.slice none 0 0)
 r1:w.cell? ⟨b+1,1,none⟩=some (.slice none 0 0)
 r2:w.cell? ⟨b+1,2,none⟩=some (.slice none 0 0)
 f0:w.frozen? ⟨b+1,0,none⟩=false
 f1:w.frozen? ⟨b+1,1,none⟩=false
 f2:w.frozen? ⟨b+1,2,none⟩=false
 lt:b+2<w.heap.size
theorem LV.blocks {b:Nat} {nl nk o:Value} {w w':World} (h:LV b nl nk o w) (h0:w'.heap[b]?=w.heap[b]?) (h1:w'.heap[b+1]?=w.heap[b+1]?) (h2:w'.heap[b+2]?=w.heap[b+2]?):LV b nl nk o w' :=
 ⟨(aC h0 _).trans h.q3,(aC h0 _).trans h.q4,(aC h2 _).trans h.p0,(aC h2 _).trans h.p1,(aC h2 _).trans h.p2,(World.frozen?_of_block (a:=⟨b+2,2,none⟩) h2).trans h.pf,(aC h1 _).trans h.r0,(aC h1 _).trans h.r1,(aC h1 _).trans h.r2,(World.frozen?_of_block (a:=⟨b+1,0,none⟩) h1).trans h.f0,(World.frozen?_of_block (a:=⟨b+1,1,none⟩) h1).trans h.f1,(World.frozen?_of_block (a:=⟨b+1,2,none⟩) h1).trans h.f2,lU h.lt h2⟩
theorem LV.stay {b:Nat} {nl nk o:Value} {w w':World} (h:LV b nl nk o w) (hb:Below w.heap.size w w'):LV b nl nk o w' :=
 h.blocks (hb.block b (by have:=h.lt;omega)) (hb.block (b+1) (by have:=h.lt;omega)) (hb.block (b+2) h.lt)
theorem LV.set {b:Nat} {nl nk o:Value} {w:World} (h:LV b nl nk o w) (u:Value):LV b nl nk u (w.setCell ⟨b+2,2,none⟩ u):=by
 have e0:(w.setCell ⟨b+2,2,none⟩ u).heap[b]?=w.heap[b]?:=Below.heap_setCell _ _ _ _ (by simp);have e1:(w.setCell ⟨b+2,2,none⟩ u).heap[b+1]?=w.heap[b+1]?:=Below.heap_setCell _ _ _ _ (by simp);refine ⟨(aC e0 _).trans h.q3,(aC e0 _).trans h.q4,(aG (.inr (by omega)) u).trans h.p0,(aG (.inr (by omega)) u).trans h.p1,World.cell?_setCell_same w ⟨b+2,2,none⟩ u h.p2,?_,(aC e1 _).trans h.r0,(aC e1 _).trans h.r1,(aC e1 _).trans h.r2,(World.frozen?_of_block (a:=⟨b+1,0,none⟩) e1).trans h.f0,(World.frozen?_of_block (a:=⟨b+1,1,none⟩) e1).trans h.f1,(World.frozen?_of_block (a:=⟨b+1,2,none⟩) e1).trans h.f2,by rw [qb];exact h.lt⟩;have:=h.pf;simpa [go_sem] using this
theorem LV.grown {b:Nat} {nl nk o:Value} {w w':World} {base:Nat} {e:TypeId} {s n:Nat} {hv:Value} {xs:List Value} (h:LV b nl nk o w) (hG:w.grownBy w' hv.ownBlock) (hr:w.ownsRow base e s hv n xs) (hb:b+3<=base:=by omega):LV b nl nk o w':=by
 have hl:=h.lt
 have ne:∀ k,k<base->some k≠hv.ownBlock:=fun k hk e=>by
  have:=(Gl hr e.symm).1;omega
 exact h.blocks (hG.block b (by omega) (ne b (by omega))) (hG.block (b+1) (by omega) (ne (b+1) (by omega))) (hG.block (b+2) hl (ne (b+2) (by omega)))
def Oy (Tb:World->Prop) (wB:World) (gs:List (T->Int⊕T)) (ks:List ByteArray) (w:World) (e:Ending) (w':World):Prop :=
 Below w.heap.size w w'/\∃ NA nc LA lc,e=.returned (.agg #[.slice none 0 0,.slice NA ks.length nc,.slice LA gs.length lc])/\gB wB w' (aT w w') (fun x=>bO x (.slice NA ks.length nc) ks/\eY Tb x (.slice LA gs.length lc) gs)
theorem gB.sets {wB w W:World} {P:World->Prop} {b:Nat} {u0 u1 u2:Value} {wa:World} (h:gB wB W (aT wa W) P) (hb:b<wa.heap.size) (hw:w.heap.size<=wa.heap.size):gB wB (((W.setCell ⟨b,0,none⟩ u0).setCell ⟨b,1,none⟩ u1).setCell ⟨b,2,none⟩ u2) (aT w (((W.setCell ⟨b,0,none⟩ u0).setCell ⟨b,1,none⟩ u1).setCell ⟨b,2,none⟩ u2)) P :=
 h.move fun k hk=>by
  have h1:=hk.1;refine ⟨(Below.heap_setCell _ _ _ _ (by simp;omega)).trans ((Below.heap_setCell _ _ _ _ (by simp;omega)).trans (Below.heap_setCell _ _ _ _ (by simp;omega))),by omega,?_⟩;rw [qb,qb,qb];exact hk.2
theorem yB {Tb:World->Prop} (hL:aS Tb) (t:T) (gs:List (T->Int⊕T)) (k6:ah t=6) (hl:nK t=gs.length) (h0:0<gs.length) (hn:gs.length<=100000) (hgs:∀ i,(hi:i<gs.length)->oU (bR t i)=false/\dH Tb (elt t i) gs[i])
  (v:Value) (wB w:World) (ha:At wB 13 v t) (hk:bM t) (hb0:Below wB.heap.size wB w) (hT:Tb w):Calls Tryz.prog 123 #[v] w (Oy Tb wB gs (kQ t) w):=by
 obtain ⟨iX,hiX,zX0,zX1,zX2⟩:=info_parts Xu;obtain ⟨g1,La,Ka,Lc,Kc,hg1,rfl,hfj,hel,hnm⟩:=ha.open;have hnL:nL t=nK t:=(hk.names k6).symm;have zu:=aj hk;have Gd:=aj hel.out;have Y2:=aj hnm.out;have HT:Hid (∀ w':World,Below w.heap.size w w'->Tb w'):=fun w' hb=>hL w hT w w' hT hb;have qH:=aj hgs;have Hl:=aj hl;have Zz:=aj hn;have hnk:nK t<=100000:=by omega
 have aiC:0<nK t:=by omega
 have aiD:(0:Int)<(nK t:Int):=by omega
 have Hg1:=aj hg1;have HNs:Hid (∀ (x:World) (X:Nat->Prop),gB wB x X (fun x=>bO x (.slice Ka (nK t) Kc) (kQ t))):=fun x X=>gB.all fun w' hw=>(kE (Kc:=Kc) hnm.out hfj.m1).keep hw;have HPx:Hid (∀ (j:T) (g:T->Int⊕T) (v:Value) (w':World),dH Tb j g->At wB 13 v j->bM j->Below w.heap.size w w'->Calls Tryz.prog 148 #[v] w' (fT Tb wB g w')):=fun j g v w' h1 h2 h3 h4=>vF hL j g h1 v wB w' h2 h3 (hb0.trans (h4.mono hb0.size)) (HT.out _ h4);have HB1:Hid (Below w.heap.size w (((w.alloc (.cells #[.int .i64 6,.int .i64 (au t),.string (ay t),.slice La (nK t) Lc,.slice Ka (nK t) Kc] 36)).alloc (.cells #[.slice none 0 0,.slice none 0 0,.slice none 0 0] 168)).alloc (.cells #[.slice none 0 0,.slice Ka (nK t) Kc,.slice none 0 0] 168))):=((aQ _ _).alloc (by simp) _).alloc (by simp;omega) _
 have Mf:Hid (LV w.heap.size (.slice La (nK t) Lc) (.slice Ka (nK t) Kc) (.slice none 0 0) (((w.alloc (.cells #[.int .i64 6,.int .i64 (au t),.string (ay t),.slice La (nK t) Lc,.slice Ka (nK t) Kc] 36)).alloc (.cells #[.slice none 0 0,.slice none 0 0,.slice none 0 0] 168)).alloc (.cells #[.slice none 0 0,.slice Ka (nK t) Kc,.slice none 0 0] 168))):=by
  show LV _ _ _ _ _;constructor<;>simp [go_sem]
 rw [k6,hnL];have HW1:Hid ((((w.alloc (.cells #[.int .i64 6,.int .i64 (au t),.string (ay t),.slice La (nK t) Lc,.slice Ka (nK t) Kc] 36)).alloc (.cells #[.slice none 0 0,.slice none 0 0,.slice none 0 0] 168)).alloc (.cells #[.slice none 0 0,.slice Ka (nK t) Kc,.slice none 0 0] 168)).heap.size=w.heap.size+3):=by show _=_;simp
 clear ha hk hel hnm hfj hT hL hgs hl hn hg1;go_in;go_wp2_with fail;refine (eu _).mono ?_;rintro e w2 ⟨rfl,rfl⟩;go_wp2_with fail;generalize ((w.alloc (.cells #[.int .i64 6,.int .i64 (au t),.string (ay t),.slice La (nK t) Lc,.slice Ka (nK t) Kc] 36)).alloc (.cells #[.slice none 0 0,.slice none 0 0,.slice none 0 0] 168)).alloc (.cells #[.slice none 0 0,.slice Ka (nK t) Kc,.slice none 0 0] 168)=W1 at HB1 Mf HW1 ⊢;go_loopg [22] (nK t) (fun g i wr=>∃ (k:Nat) (xs:List Value) (o:Value),g=nK t - k/\k<=nK t/\i=.int .i64 k/\Hid (Below w.heap.size w wr)/\Hid (LV w.heap.size (.slice La (nK t) Lc) (.slice Ka (nK t) Kc) o wr)/\Hid (ru (ExE Tb wB) 1 175 (w.heap.size+3) o (gs.take k) xs wr)/\Hid (w.heap.size+3<=wr.heap.size))
 case atStart=>exact ⟨0,[],_,rfl,Nat.zero_le _,rfl,HB1,Mf,ru.nil _ _ _ _ _,(by show _<=_;rw [HW1.out];exact Nat.le_refl _)⟩
 case round =>
  have Dq:=aj HW1.out;clear HB1 Mf HW1;obtain ⟨k,xs,o,rfl,hk,rfl,HB,HX,HL,HWr⟩:=hrel;have nR:=aj (hb0.trans (HB.out.mono hb0.size));by_cases hlt:k<nK t
  ·have rZ:k<nL t:=by omega
   have wV:k<gs.length:=by have:=Hl.out;omega
   obtain ⟨kb,ko,rfl,hkb,hks,hkc⟩:=Y2.out.keep nR.out k hlt;obtain ⟨bb,oo,A,B,C,D,rfl,hbl,p0,p1,p2,p3,p4,Ha⟩:=Gd.out.shape nR.out k rZ;obtain ⟨e2,e3⟩:=qH.out k wV;have HO:=aj (iD (bR t k));rw [e2] at HO;obtain ⟨j,hj⟩:∃ j,elt t k=j:=⟨_,rfl⟩;have hkj:=zu.out.elt rZ;rw [hj] at p0 p1 p2 p3 p4 Ha hkj e3;have HC:=aj (HPx.out j _ _ wr.drew e3 (Ha.out.up (show g1<=13 by have:=Hg1.out;omega)) hkj HB.out.drew);have CY:Hid (gs.take (k+1)=gs.take k++[gs[k]]):=by show _=_;rw [List.take_add_one,List.getElem?_eq_getElem wV];rfl
   have hxl:(gs.take k).length=k:=by rw [List.length_take];omega
   generalize gs[k]=gk at HC CY;obtain ⟨OA,oc,ho⟩:=gY HL.out.row;rw [hxl] at ho;subst ho;have hq3:=HX.out.q3;have hq2:=HX.out.p2;have Hxl:=aj hxl;have HRw:Hid (∀ w':World,Below wr.heap.size wr w'->ru (ExE Tb wB) 1 175 (w.heap.size+3) (.slice OA k oc) (gs.take k) xs w'/\LV w.heap.size (.slice (some ⟨bb,oo,none⟩) (nK t) Lc) (.slice (some ⟨kb,ko,none⟩) (nK t) Kc) (.slice OA k oc) w'):=fun w' hb=>⟨HL.out.keep (jD Tb wB) hb,HX.out.stay hb⟩
   have HRo:Hid (∀ w':World,Below wr.heap.size wr w'->w'.ownsRow (w.heap.size+3) 175 1 (.slice OA k oc) k xs):=fun w' hb=>by
    have:=(HRw.out w' hb).1.row;rw [hxl] at this;exact this
   have Hdr:=aj (ak wr);have hlow:=HWr.out;clear e2 e3 hj hkj Ha HL HX;go_wp2_with fail;refine (HO.out _).mono ?_;rintro e wr ⟨rfl,rfl⟩;go_wp2_with fail;refine (eu _).mono ?_;rintro e wr ⟨rfl,rfl⟩;go_wp2_with fail;go_region_law (first | (refine step_append_lies _ (by rfl) _ _ _ (by rfl) (w.heap.size+3) 175 iX _ 1 16 Tryz.underlying166 hiX zX0 zX1 zX2 rfl (by omega) (.slice OA k oc) k xs (by rfl) (HRo.out _ sN.out) ⟨w4.heap.size,0,none⟩ 1 1 [.iface t6 v6] (by rfl) (by rfl) (World.news_of_block (cs:=#[.iface t6 v6]) (t:=175) (fr:=(0,0)) (heap_alloc_new w4 _)) (by simp [Value.oneCell']) (by omega) (by unfold maxLen;omega) (by omega) WG (w4.heap.size+1) (by simp) ?_;intro g cap w7 oq iW AQ Ml;have AP:=aj ((HRw.out _ sN.out).2.grown iW (HRo.out _ sN.out));have hc7:=AP.out.p2;have hf7:=AP.out.pf) | (go_simp;go_wp2_with (go_at_call 148;refine HC.out.mono ?_;rintro e w4 ⟨b4,t6,v6,rfl,ht⟩;have Hb4:=aj (Hdr.out.trans b4);have Ht4:=aj ht;have sN:=aj (Hb4.out.trans (((Below.refl _ _).alloc (Nat.le_refl _) (.cells #[.iface t6 v6] 175)).mono Hb4.out.size));have hc4:=(HRw.out _ Hb4.out).2.p2;have abQ:=(HRw.out _ sN.out).2.p2;have WG:w.heap.size+3<=(w4.alloc (.cells #[.iface t6 v6] 175)).heap.size:=(by have:=Hb4.out.size;simp;omega);clear b4 ht)))
   all_goals
    have uo:=aj (aQ w4 (.cells #[.iface t6 v6] 175));have Jk:=aj (ru.grow (x:=gk) (cs:=[.iface t6 v6]) (v':=.slice (some ⟨g,0,none⟩) (k+1) cap) (jD Tb wB) (HRw.out wr (Below.refl _ _)).1 sN.out rfl (jD Tb wB _ _ _ _ _ _ ⟨t6,v6,rfl,Ht4.out⟩ (fun b hb=>⟨uo.out.block b hb.2,hb⟩)) (fun b hb=>⟨hb.1,Nat.lt_of_lt_of_le hb.2 uo.out.size⟩) hlow (by rw [Hxl.out];exact oq) iW (AQ.elim (fun h=>.inl h.symm) (fun h=>.inr (by rw [h];simp [Value.ownBlock]))));have pq:=aj (bY (HB.out.trans (sN.out.mono HB.out.size)) (HRo.out _ sN.out) (by omega) (by have:=HB.out.size;omega) iW);rw [<- CY.out] at Jk;have HX8:=aj (AP.out.set (.slice (some ⟨g,0,none⟩) (k+1) cap));have LU:=aj (Zy pq.out (b:=w.heap.size+2) (by omega) 2 (.slice (some ⟨g,0,none⟩) (k+1) cap));have HL8:=aj (Jk.out.off (jD Tb wB) (w1:=w7.setCell ⟨w.heap.size+2,2,none⟩ (.slice (some ⟨g,0,none⟩) (k+1) cap)) (by rw [qb];exact Nat.le_refl _) (fun b h1 h2=>Below.heap_setCell _ _ _ _ (by simp;omega)));have HW8:Hid (w.heap.size+3<=(w7.setCell ⟨w.heap.size+2,2,none⟩ (.slice (some ⟨g,0,none⟩) (k+1) cap)).heap.size):=by show _<=_;rw [qb];have:=AP.out.lt;omega
    clear oq iW AQ Ml hc7 hf7 hc4 abQ AP Jk pq HC HO p0 p1 p2 p3 p4 hq2 hq3;go_wp2_with fail;go_roundg (nK t - (k+1))
    case rel=>exact ⟨k+1,_,_,rfl,by omega,by go_num,LU,HX8,HL8,HW8⟩
    case measure=>omega
  ·obtain rfl:k=nK t:=by omega
   rw [Hl.out,List.take_length] at HL;obtain ⟨A,c,rfl,hs⟩:=Fy (w:=W1) HL.out (by have:=Dq.out;omega) (by have:=Zz.out;omega);have HS:=aj (gB.sets (b:=w.heap.size+1) (u0:=.slice none 0 0) (u1:=.slice Ka (nK t) Kc) (u2:=.slice A gs.length c) (wa:=W1) (w:=w) ((HNs.out wr (aT W1 wr)).and hs) (by have:=Dq.out;omega) (by have:=Dq.out;omega));have dF:=aj (vH HB.out (b:=w.heap.size+1) (by omega) (.slice none 0 0) (.slice Ka (nK t) Kc) (.slice A gs.length c));have hq0:=HX.out.p0;have hq1:=HX.out.p1;have hq2:=HX.out.p2;have r0:=HX.out.r0;have r1:=HX.out.r1;have r2:=HX.out.r2;have f0:=HX.out.f0;have f1:=HX.out.f1;have f2:=HX.out.f2;clear hs HL;go_wp2_with fail;refine bodyPost_ret (v:=.agg #[.slice none 0 0,.slice Ka (nK t) Kc,.slice A gs.length c]) (by simp [results,Tryz.results123,go_sem, *]) rfl ?_;exact ⟨dF.out,Ka,Kc,A,c,rfl,HS.out⟩
def yC:ByteArray:=⟨#[36,112,114,111,106,101,99,116]⟩
theorem nE {Tb:World->Prop} (hV:bJ Tb) (hL:aS Tb) (gs:List (T->Int⊕T)) (ks:List ByteArray) (hkl:ks.length<=1000000) (t j:T) (k6:ah t=6) (k1:nK t=1) (hj:elt t 0=j) (hx:bR t 0=yC) (h:∀ (v:Value) (wB w:World),At wB 13 v j->bM j->Below wB.heap.size wB w->Tb w->Calls Tryz.prog 123 #[v] w (Oy Tb wB gs ks w)):nA Tb t (G5 gs ks):=by
 intro v wB w ha hk hb0 hT;have l1:nL t=1:=by have:=hk.names k6;omega
 have hkj:bM j:=by rw [<- hj];exact hk.elt (by omega)
 have Ha:=aj ha;obtain ⟨g1,La,Ka,Lc,Kc,hg1,rfl,_,_,_⟩:=ha.open;have HB1:Hid (Below w.heap.size w (w.alloc (.cells #[.int .i64 (ah t),.int .i64 (au t),.string (ay t),.slice La (nL t) Lc,.slice Ka (nK t) Kc] 36))):=(Below.refl _ _).alloc (Nat.le_refl _) _;have HC:=aj (nu t j yC hj hx _ wB _ Ha.out hk k6 k1 (hb0.trans (HB1.out.mono hb0.size)));have HE:Hid (∀ (v:Value) (w':World),At wB 13 v j->Below w.heap.size w w'->Calls Tryz.prog 123 #[v] w' (Oy Tb wB gs ks w')):=fun v w' h1 h2=>h v wB w' h1 hkj (hb0.trans (h2.mono hb0.size)) (hL w hT w w' hT h2);clear ha hk hg1 hb0 hT h k6 k1 l1 hkj Ha hj hx;unfold yC at *;go_in;go_wp2_with fail;refine HC.out.mono ?_;rintro e w2 ⟨b2,A,B,C,D,rfl,hat⟩;have fF:Hid (Below w2.heap.size w2 (w2.alloc (.cells #[.int .i64 (ah j),.int .i64 (au j),.string (ay j),.slice A (nL j) B,.slice C (nK j) D] 36))):=(Below.refl _ _).alloc (Nat.le_refl _) _;have HB2:=aj (HB1.out.trans (b2.mono HB1.out.size));have HB3:=aj (HB2.out.trans (fF.out.mono HB2.out.size));have HP:=aj (HE.out _ _ hat HB3.out);have HY:=aj (aJ w2 (.int .i64 (ah j)) (.int .i64 (au j)) (.string (ay j)) (.slice A (nL j) B) (.slice C (nK j) D));clear b2 hat HC HE;have y0:=HY.out.q0;have y1:=HY.out.q1;have y2:=HY.out.q2;have y3:=HY.out.q3;have y4:=HY.out.q4;go_wp2_with fail;refine HP.out.mono ?_;rintro e w5 ⟨b5,NA,nc,LA,lc,rfl,hs⟩;have eU:=aj (HB3.out.trans (b5.mono HB3.out.size))
 have HS:=aj ((hs.later (wa:=w) (Below.refl _ _) HB3.out.size).mono (Q:=fun x=>gK Tb x (.iface 168 (.agg #[.slice none 0 0,.slice NA ks.length nc,.slice LA gs.length lc])) (G5 gs ks)) fun w' hw hh=>NM hV hL hh.2 hh.1 hkl);clear b5 hs HP y0 y1 y2 y3 y4;go_wp2_with fail;go_ret;exact ⟨eU.out,_,_,rfl,HS.out⟩
def adr (Tb:World->Prop) (wB:World) (op:ByteArray) (g:T->Int⊕T) (w:World) (e:Ending) (w':World):Prop :=
 Below w.heap.size w w'/\∃ ty p,e=.returned (.agg #[.string op,.iface ty p])/\gB wB w' (aT w w') (fun x=>bL Tb x (.iface ty p) g)
def Ih (Tb:World->Prop) (t:T) (op:ByteArray) (g:T->Int⊕T):Prop:=∀ (v:Value) (wB w:World),At wB 13 v t->bM t->Below wB.heap.size wB w->Tb w->Calls Tryz.prog 163 #[v] w (adr Tb wB op g w)
theorem Ae (w:World):(w.alloc (.cells #[.string ⟨#[]⟩,.nilIface] 239)).cell? ⟨w.heap.size,0,none⟩=some (.string ⟨#[]⟩)/\(w.alloc (.cells #[.string ⟨#[]⟩,.nilIface] 239)).cell? ⟨w.heap.size,1,none⟩=some .nilIface/\(w.alloc (.cells #[.string ⟨#[]⟩,.nilIface] 239)).frozen? ⟨w.heap.size,0,none⟩=false/\(w.alloc (.cells #[.string ⟨#[]⟩,.nilIface] 239)).frozen? ⟨w.heap.size,1,none⟩=false:=⟨by simp [go_sem],by simp [go_sem],by simp [go_sem],by simp [go_sem]⟩
structure Le (b:Nat) (w:World):Prop where
 q0:w.cell? ⟨b,0,none⟩=some (.string ⟨#[]⟩)
 q1:w.cell? ⟨b,1,none⟩=some .nilIface
 f0:w.frozen? ⟨b,0,none⟩=false
 f1:w.frozen? ⟨b,1,none⟩=false
 lt:b<w.heap.size
theorem Le.stay {b:Nat} {w w':World} (h:Le b w) (hb:Below w.heap.size w w'):Le b w' :=
 ⟨(hb.cell (p:=⟨b,0,none⟩) h.lt).trans h.q0,(hb.cell (p:=⟨b,1,none⟩) h.lt).trans h.q1,(World.frozen?_of_block (a:=⟨b,0,none⟩) (hb.block b h.lt)).trans h.f0,(World.frozen?_of_block (a:=⟨b,1,none⟩) (hb.block b h.lt)).trans h.f1,Nat.lt_of_lt_of_le h.lt hb.size⟩
theorem Le.new (w:World):Le w.heap.size (w.alloc (.cells #[.string ⟨#[]⟩,.nilIface] 239)):=⟨(Ae w).1,(Ae w).2.1,(Ae w).2.2.1,(Ae w).2.2.2,by simp⟩
theorem kP {w W:World} (h:Below w.heap.size w W) {b:Nat} (hb:w.heap.size<=b) (o:Nat) (u:Value):Below w.heap.size w (W.setCell ⟨b,o,none⟩ u):=by
 obtain ⟨t1,t2,t3,t4⟩:=gW W ⟨b,o,none⟩ u;exact ⟨t2.trans h.os,t3.trans h.tape,t4.trans h.output,by rw [t1];exact h.size,fun k hk=>(Below.heap_setCell _ _ _ _ (by simp;omega)).trans (h.block k hk)⟩
theorem gB.set {wB w W:World} {P:World->Prop} {b c:Nat} (h:gB wB W (aT w W) P) (hb:b<w.heap.size) (hc:c<=w.heap.size) (o:Nat) (u:Value) {wa:World} (hwa:wa.heap.size=c):gB wB (W.setCell ⟨b,o,none⟩ u) (aT wa (W.setCell ⟨b,o,none⟩ u)) P :=
 h.move fun k hk=>by
  have h1:=hk.1;refine ⟨Below.heap_setCell _ _ _ _ (by simp;omega),by omega,?_⟩;rw [(gW W ⟨b,o,none⟩ u).1];exact hk.2
theorem sS {Tb:World->Prop} (hL:aS Tb) (t j:T) (g:T->Int⊕T) (k6:ah t=6) (k1:nK t=1) (hj:elt t 0=j) {op:ByteArray} (hx:bR t 0=op) (h:dH Tb j g) (ho:jS op):Ih Tb t op g:=by
 intro v wB w ha hk hb0 hT;have l1:nL t=1:=by have:=hk.names k6;omega
 have hkj:bM j:=by rw [<- hj];exact hk.elt (by omega)
 have Ha:=aj ha;obtain ⟨g1,La,Ka,Lc,Kc,hg1,rfl,_,_,_⟩:=ha.open;have HB1:Hid (Below w.heap.size w ((w.alloc (.cells #[.int .i64 (ah t),.int .i64 (au t),.string (ay t),.slice La (nL t) Lc,.slice Ka (nK t) Kc] 36)).alloc (.cells #[.string ⟨#[]⟩,.nilIface] 239))):=((Below.refl _ _).alloc (Nat.le_refl _) _).alloc (by simp) _
 have HX:Hid (Le (w.heap.size+1) ((w.alloc (.cells #[.int .i64 (ah t),.int .i64 (au t),.string (ay t),.slice La (nL t) Lc,.slice Ka (nK t) Kc] 36)).alloc (.cells #[.string ⟨#[]⟩,.nilIface] 239))):=by
  show Le _ _;have:=Le.new (w.alloc (.cells #[.int .i64 (ah t),.int .i64 (au t),.string (ay t),.slice La (nL t) Lc,.slice Ka (nK t) Kc] 36));simpa using this
 have HC:=aj (nu t j op hj hx _ wB _ Ha.out hk k6 k1 (hb0.trans (HB1.out.mono hb0.size)));have HE:Hid (∀ (v:Value) (w':World),At wB 13 v j->Below w.heap.size w w'->Calls Tryz.prog 148 #[v] w' (fT Tb wB g w')):=fun v w' h1 h2=>vF hL j g h v wB w' h1 hkj (hb0.trans (h2.mono hb0.size)) (hL w hT w w' hT h2);clear ha hk hg1 hb0 hT h hL k6 k1 l1 hkj Ha hj hx;unfold jS KT BU BX o8 sQ fK at ho;rcases ho with rfl | rfl | rfl | rfl | rfl | rfl
 all_goals
  go_in;go_wp2_with fail;refine HC.out.mono ?_;rintro e w2 ⟨b2,A,B,C,D,rfl,hat⟩;have fF:Hid (Below w2.heap.size w2 (w2.alloc (.cells #[.int .i64 (ah j),.int .i64 (au j),.string (ay j),.slice A (nL j) B,.slice C (nK j) D] 36))):=(Below.refl _ _).alloc (Nat.le_refl _) _;have HB2:=aj (HB1.out.trans (b2.mono HB1.out.size));have HB3:=aj (HB2.out.trans (fF.out.mono HB2.out.size));have dP:=aj ((HX.out.stay b2).stay fF.out);have HP:=aj (HE.out _ _ hat HB3.out);have HY:=aj (aJ w2 (.int .i64 (ah j)) (.int .i64 (au j)) (.string (ay j)) (.slice A (nL j) B) (.slice C (nK j) D));have hl2:w.heap.size+1<w2.heap.size:=by have:=b2.size;simp at this;omega
  clear b2 hat HC HE;have y0:=HY.out.q0;have y1:=HY.out.q1;have y2:=HY.out.q2;have y3:=HY.out.q3;have y4:=HY.out.q4;go_wp2_with fail;refine HP.out.mono ?_;rintro e w5 ⟨b5,ty,p,rfl,hs⟩;have eU:=aj (HB3.out.trans (b5.mono HB3.out.size));have bf:=aj (dP.out.stay b5);have Hs:=aj hs;have q0:=bf.out.q0;have q1:=bf.out.q1;have f0:=bf.out.f0;have f1:=bf.out.f1;clear b5 hs HP y0 y1 y2 y3 y4;go_wp2_with fail;refine bodyPost_ret (by simp [results,Tryz.results163,go_sem, *];try rfl) rfl ?_;exact ⟨kP (kP eU.out (b:=w.heap.size+1) (by omega) 0 _) (b:=w.heap.size+1) (by omega) 1 _,ty,p,rfl,(Hs.out.set (b:=w.heap.size+1) (c:=w2.heap.size) (by simp;omega) (by simp) 0 _ (wa:=w2) rfl).set (b:=w.heap.size+1) (c:=w.heap.size) (by omega) (by omega) 1 _ (wa:=w) rfl⟩
theorem ads:(Tryz.prog.info? 239).map (fun i=>(i.zero,i.size,i.bytes))=some (some (.agg #[.string ⟨#[]⟩,.nilIface]),2,32):=by kernel_rfl
def adt (Tb:World->Prop) (wB:World) (w:World) (X:Nat->Prop) (cs:List Value) (p:ByteArray×(T->Int⊕T)):Prop:=∃ ty q,cs=[.string p.1,.iface ty q]/\gB wB w X (fun x=>bL Tb x (.iface ty q) p.2)
theorem qO (Tb:World->Prop) (wB:World):uM (adt Tb wB):=fun _ _ _ _ _ _ h hb=>by
 obtain ⟨ty,q,h1,h2⟩:=h;exact ⟨ty,q,h1,h2.move hb⟩
theorem SS {base:Nat} {hv:Value} {w wr:World} (hlo:w.heap.size<=base) {b:Nat} (h:Y0 base hv wr b):aT w wr b:=⟨Nat.le_trans hlo h.1,h.2.1⟩
theorem Xv {Tb:World->Prop} {wB:World} {base:Nat} {hv:Value} {es:List (ByteArray×(T->Int⊕T))} {xs:List Value} {w wr:World} (h:ru (adt Tb wB) 2 239 base hv es xs wr) (hlo:w.heap.size<=base) (hn:es.length<=100000) (hg:∀ i,(hi:i<es.length)->jS es[i].1):∃ A c,hv=.slice A es.length c/\gB wB wr (aT w wr) (fun x=>qN Tb x (.slice A es.length c) es):=by
 have hrow:=h.row;rcases h.row.2 with ⟨rfl,h0⟩ | ⟨g,cap,cur,rfl,hb0,hgb,_⟩
 ·exact ⟨none,0,by rw [h0],gB.all fun w' _=>⟨none,0,rfl,hn,fun i hi=>by omega⟩⟩
 ·have hgl:=(Array.getElem?_eq_some_iff.1 hgb).1;refine ⟨some ⟨g,0,none⟩,cap,rfl,aT w wr,fun b hb=>⟨hb,hb.2⟩,fun w' hw hy=>⟨_,_,rfl,hn,fun i hi=>?_⟩⟩;obtain ⟨ty,q,hc,hs⟩:=h.el i hi;have c0:=aW hrow (oF (r:=0) (by rw [hc];rfl) (by omega));have c1:=aW hrow (oF (r:=1) (by rw [hc];rfl) (by omega));have hgw:w'.heap[g]?=wr.heap[g]?:=hy g ⟨by omega,hgl⟩;refine ⟨g,0,.iface ty q,rfl,lU hgl hgw,?_,?_,?_,hg i hi⟩
  ·rw [aC hgw,Nat.zero_add];exact c0
  ·rw [aC hgw,Nat.zero_add];exact c1
  ·obtain ⟨Y,h1,h2⟩:=hs;exact h2 w' hw fun b hb=>hy b (SS hlo (h1 b hb).1)
def Xw (Tb:World->Prop) (wB:World) (es:List (ByteArray×(T->Int⊕T))) (w:World) (e:Ending) (w':World):Prop :=
 Below w.heap.size w w'/\∃ A c,e=.returned (.slice A es.length c)/\gB wB w' (aT w w') (fun x=>qN Tb x (.slice A es.length c) es)
def Ii:ByteArray:=⟨#[95,105,100]⟩
theorem SV {Tb:World->Prop} (hL:aS Tb) (t:T) (es:List (ByteArray×(T->Int⊕T))) (k6:ah t=6) (hl:nK t=es.length) (hn:es.length<=100000) (hes:∀ i,(hi:i<es.length)->bR t i≠Ii/\oU (bR t i)=false/\Ih Tb (elt t i) es[i].1 es[i].2/\jS es[i].1/\es[i].1.size<=100)
  (v:Value) (wB w:World) (ha:At wB 13 v t) (hk:bM t) (hb0:Below wB.heap.size wB w) (hT:Tb w):Calls Tryz.prog 150 #[v] w (Xw Tb wB es w):=by
 obtain ⟨iE,hiE,zE0,zE1,zE2⟩:=info_parts ads;obtain ⟨g1,La,Ka,Lc,Kc,hg1,rfl,hfj,hel,hnm⟩:=ha.open;have hnL:nL t=nK t:=(hk.names k6).symm;have zu:=aj hk;have Gd:=aj hel.out;have Y2:=aj hnm.out;have HT:Hid (∀ w':World,Below w.heap.size w w'->Tb w'):=fun w' hb=>hL w hT w w' hT hb;have qH:=aj hes;have HG:Hid (∀ i,(hi:i<es.length)->jS es[i].1):=fun i hi=>(hes i hi).2.2.2.1;have Hl:=aj hl;have Zz:=aj hn;have hnk:nK t<=100000:=by omega
 have Hg1:=aj hg1;rw [k6,hnL];clear ha hk hel hnm hfj hT hL hes hl hn hg1;go_in;go_wp2_with fail;refine (eu _).mono ?_;rintro e w2 ⟨rfl,rfl⟩;go_wp2_with fail;go_loopg [3,13] (nK t) (fun g o i wr=>∃ (k:Nat) (xs:List Value),g=nK t - k/\k<=nK t/\i=.int .i64 k/\Hid (Below (w.heap.size+1) (w.alloc (.cells #[.int .i64 6,.int .i64 (au t),.string (ay t),.slice La (nK t) Lc,.slice Ka (nK t) Kc] 36)) wr)/\Hid (ru (adt Tb wB) 2 239 (w.heap.size+1) o (es.take k) xs wr))
 case atStart=>exact ⟨0,[],rfl,Nat.zero_le _,rfl,Below.refl _ _,ru.nil _ _ _ _ _⟩
 case round =>
  obtain ⟨k,xs,rfl,hk,rfl,HB,HL⟩:=hrel;obtain ⟨q0,q1,q2,q3,q4,hz,hbw⟩:=dB HB.out;have nR:=aj (hb0.trans (hbw.mono hb0.size));have gQ:=aj hbw;clear hbw;by_cases hlt:k<nK t
  ·have rZ:k<nL t:=by omega
   have wV:k<es.length:=by have:=Hl.out;omega
   obtain ⟨kb,ko,rfl,hkb,hks,hkc⟩:=Y2.out.keep nR.out k hlt;obtain ⟨bb,oo,A,B,C,D,rfl,hbl,p0,p1,p2,p3,p4,Ha⟩:=Gd.out.shape nR.out k rZ;obtain ⟨e1,e2,e3,e4,e5⟩:=qH.out k wV;have n1:((bR t k).toList==[95,105,100])=false:=aF (b:=Ii) e1;have HO:=aj (iD (bR t k));rw [e2] at HO;have HC:=aj (e3 _ wB wr (Ha.out.up (show g1<=13 by have:=Hg1.out;omega)) (zu.out.elt rZ) nR.out (HT.out _ gQ.out));have CY:Hid (es.take (k+1)=es.take k++[es[k]]):=by show _=_;rw [List.take_add_one,List.getElem?_eq_getElem wV];rfl
   have hxl:(es.take k).length=k:=by rw [List.length_take];omega
   obtain ⟨ek,hek⟩:∃ ek,es[k]=ek:=⟨_,rfl⟩;rw [hek] at HC CY e5;clear e1 e2 e3 e4 hek;obtain ⟨op,gk⟩:=ek;have hop:op.size<=140737488355328:=by have:op.size<=100:=e5;omega
   dsimp only at HC;clear e5;go_wp2_with fail;refine (HO.out _).mono ?_;rintro e w2 ⟨rfl,rfl⟩;go_wp2_with fail;refine (eu _).mono ?_;rintro e w2 ⟨rfl,rfl⟩;go_wp2_with fail;refine HC.out.mono ?_;rintro e w3 ⟨b3,t6,v6,rfl,ht⟩;have UW:=aj ht;have Hb3:=aj b3;have bT:=aj (aQ w3 (.cells #[.string op,.iface t6 v6] 239));have rH:=aj ((HL.out.keep (qO Tb wB) Hb3.out).keep (qO Tb wB) bT.out);have qy:Hid (Src Tryz.prog 2 176 (.slice (some ⟨w3.heap.size,0,none⟩) 1 1) 1 [.string op,.iface t6 v6] (w3.alloc (.cells #[.string op,.iface t6 v6] 239))):=Src.ofSlice _ Tryz.underlying176 ⟨w3.heap.size,0,none⟩ 1 1 [.string op,.iface t6 v6] (by simp) (World.news_of_block (heap_alloc_new w3 _)) (by simp [Value.oneCell']);have hlo:w.heap.size+1<=(w3.alloc (.cells #[.string op,.iface t6 v6] 239)).heap.size:=by have:=Hb3.out.size;simp;omega
   clear b3 ht HC HO;go_wp2_with (at_builtin;refine aD _ rfl (.tmp 26) (.tmp 33) 176 176 rfl (w.heap.size+1) 239 iE _ 2 32 Tryz.underlying176 hiE zE0 zE1 zE2 rfl u3 (es.take k).length xs rfl rH.out.row (.slice (some ⟨w3.heap.size,0,none⟩) 1 1) 1 [.string op,.iface t6 v6] rfl qy.out (by unfold maxLen;omega) (by omega) hlo ?_;intro v' w6 pV lZ dW);have zn:=aj (HL.out.grow (x:=(op,gk)) (cs:=[.string op,.iface t6 v6]) (qO Tb wB) (Hb3.out.trans (bT.out.mono Hb3.out.size)) rfl (qO Tb wB _ _ _ _ _ _ ⟨t6,v6,rfl,UW.out⟩ (fun b hb=>⟨bT.out.block b hb.2,hb⟩)) (fun b hb=>⟨hb.1,Nat.lt_of_lt_of_le hb.2 bT.out.size⟩) (by omega) pV lZ dW);have iq:=aj (bY ((HB.out.trans (Hb3.out.mono (by omega))).trans (bT.out.mono (by have:=Hb3.out.size;omega))) rH.out.row (Nat.le_refl _) (by omega) lZ);rw [<- CY.out] at zn;clear pV lZ dW;go_wp2_with fail;go_roundg (nK t - (k+1))
   case rel=>exact ⟨k+1,_,rfl,by omega,by go_num,iq,zn⟩
   case measure=>omega
  ·obtain rfl:k=nK t:=by omega
   rw [Hl.out,List.take_length] at HL;obtain ⟨A,c,rfl,hs⟩:=Xv (w:=w) HL.out (by omega) Zz.out HG.out;have HS:=aj hs;clear hs HL;go_wp2_with fail;go_ret;exact ⟨gQ.out,_,_,rfl,HS.out⟩
end Go.Proofs.YtknakfpciccoaabGreatDoor
