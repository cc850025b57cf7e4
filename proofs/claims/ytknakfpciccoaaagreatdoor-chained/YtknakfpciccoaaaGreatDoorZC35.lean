import Derived.Test.YtknakfpciccoaaaGreatDoorZC25
import Derived.Test.YtknakfpciccoaaaGreatDoorZC21
import Derived.Test.YtknakfpciccoaaaGreatDoorZC30
import Derived.Test.YtknakfpciccoaaaGreatDoorZC27
import Derived.Test.YtknakfpciccoaaaGreatDoorZC34
import Derived.Test.YtknakfpciccoaaaGreatDoorZC22
import Derived.Test.YtknakfpciccoaaaGreatDoorZC26
import Derived.Test.YtknakfpciccoaaaGreatDoorZC24
import Derived.Test.YtknakfpciccoaaaGreatDoorZC33
/- filled: a store with documents out of raw numbers. -/
set_option maxHeartbeats 8000000
set_option maxRecDepth 100000
namespace Go.Proofs.YtknakfpciccoaaaGreatDoor
open Go.RowKit
def LJ (w:World) (v:Value) (n:Nat):Prop :=
 ∃ A c,v=.slice A n c/\n<=1000000000000000/\∀ i,i<n->∃ b o z,A=some ⟨b,o,none⟩/\b<w.heap.size/\w.cell? ⟨b,o+i,none⟩=some (.int .i64 z)/\-9223372036854775808<=z/\z<=9223372036854775807
def mY (l:List T):Prop:=∀ k,(h:k<l.length)->∃ i o,i<36/\(∀ j,o=some j->j<36)/\l[k]=iH (k:Int) i o
theorem mY.nil:mY []:=fun k h=>absurd h (Nat.not_lt_zero k)
theorem mY.snoc {l:List T} (h:mY l) {i:Nat} {o:Option Nat} (hi:i<36) (ho:∀ j,o=some j->j<36):mY (l++[iH (l.length:Int) i o]):=by
 intro k hk;rw [List.length_append,List.length_cons,List.length_nil] at hk;by_cases e:k<l.length
 ·obtain ⟨a,b,c,d,e1⟩:=h k e;exact ⟨a,b,c,d,by rw [List.getElem_append_left e];exact e1⟩
 ·obtain rfl:k=l.length:=by omega
  exact ⟨i,o,hi,ho,by rw [List.getElem_append_right (by omega)];simp⟩
theorem FP {p:T->Bool} {t:T}:∀ k,(∀ i,i<k->p (elt t i)=false)->dw p t k=false
 | 0,_=>rfl
 | k+1,h=>by
  rw [dw,FP k (fun i hi=>h i (by omega)),h k (by omega)];rfl
theorem mY.fresh {l:List T} (h:mY l) (i:Nat) (o:Option Nat):dw (jq (Qt (iH (l.length:Int) i o))) (aO 5 0 ByteArray.empty l []) l.length=false:=by
 refine FP _ fun k hk=>?_;have e:elt (aO 5 0 ByteArray.empty l []) k=l[k]:=by rw [iQ,List.getD_eq_getElem?_getD,List.getElem?_eq_getElem hk];rfl
 obtain ⟨a,b,_,_,e1⟩:=h k hk;rw [e,e1,Qx,Wu];simp;omega
abbrev nX:ByteArray:=⟨#[120]⟩
abbrev nY:ByteArray:=⟨#[121]⟩
def vQ (l m:Option (List T)):ByteArray->Option (List T):=uO (uO (fun _=>none) nX l) nY m
theorem QM (l m:Option (List T)):vQ l m nX=l:=by unfold vQ;rw [bX _ _ (by decide),fu]
theorem abb (l m:Option (List T)):vQ l m nY=m:=by unfold vQ;rw [fu]
theorem CP (l m:Option (List T)) {z:ByteArray} (h1:z≠nX) (h2:z≠nY):vQ l m z=none:=by unfold vQ;rw [bX _ _ h2,bX _ _ h1]
theorem XE (l m k:Option (List T)):uO (vQ l m) nX k=vQ k m:=by
 funext z
 unfold vQ;by_cases h1:z=nX
 ·subst h1;rw [fu,bX _ _ (by decide),fu]
 ·rw [bX _ _ h1];by_cases h2:z=nY
  ·subst h2;rw [fu,fu]
  ·rw [bX _ _ h2,bX _ _ h1,bX _ _ h2,bX _ _ h1]
theorem XF (l m k:Option (List T)):uO (vQ l m) nY k=vQ l k:=by
 funext z
 unfold vQ;by_cases h2:z=nY
 ·subst h2;rw [fu,fu]
 ·rw [bX _ _ h2,bX _ _ h2,bX _ _ h2]
theorem Z0 (l:Option (List T)):uO (uO (fun _=>none) nX l) nY (some [])=vQ l (some []):=rfl
abbrev LK:ByteArray:=⟨#[123,125]⟩
theorem OZ:eJ LK=0:=by kernel_rfl
theorem XG:tJ LK=aO 6 0 ByteArray.empty [] []:=by kernel_rfl
theorem Iz:bE 16 (tJ LK)=true:=by rw [XG];kernel_rfl
theorem Z5 (d:T):gP 16 (tJ LK) d=true:=by rw [XG];rfl
theorem O1 (l:List T):l.filter (gP 16 (tJ LK))=l:=by
 rw [List.filter_eq_self];exact fun a _=>Z5 a
end Go.Proofs.YtknakfpciccoaaaGreatDoor
/- Texts that are what is printed of a list of trees; of the stages of Sorted. -/
namespace Go.Proofs.YtknakfpciccoaaaGreatDoor
open Go.RowKit
theorem FQ (g:T->List UInt8) (ts:List T) (t:T):∀ k,k<=ts.length->dL g (aO 5 0 ByteArray.empty (ts++[t]) []) k=dL g (aO 5 0 ByteArray.empty ts []) k
 | 0,_=>rfl
 | k+1,h=>by
  have e:elt (aO 5 0 ByteArray.empty (ts++[t]) []) k=elt (aO 5 0 ByteArray.empty ts []) k:=by
   rw [iQ,iQ,List.getD_eq_getElem?_getD,List.getD_eq_getElem?_getD,List.getElem?_append_left (by omega)]
  rw [dL,dL,FQ g ts t k (by omega),e]
structure yM (f:Nat) (ts:List T) (u:ByteArray) (n:Nat):Prop where
 wr:u.data.toList=dL (bL f) (aO 5 0 ByteArray.empty ts []) ts.length
 fit:∀ t ∈ ts,rG (f+1) t
 good:∀ t ∈ ts,dD f t
 can:∀ t ∈ ts,bH f t=t
 size:u.size<=n
theorem yM.nil (f:Nat):yM f [] ByteArray.empty 0:=⟨rfl,fun t h=>(by cases h),fun t h=>(by cases h),fun t h=>(by cases h),Nat.le_refl _⟩
theorem yM.one {f:Nat} {t:T} {s:ByteArray} {n:Nat} (h:o7 f t s n):yM f [t] s n:=by
 refine ⟨?_,fun x hx=>?_,fun x hx=>?_,fun x hx=>?_,h.size⟩
 ·rw [h.wr];show _=([]++([]++bL f t));simp
 ·obtain rfl:x=t:=by simpa using hx
  exact h.fit
 ·obtain rfl:x=t:=by simpa using hx
  exact h.good
 ·obtain rfl:x=t:=by simpa using hx
  exact h.can
theorem yM.snoc {f:Nat} {ts:List T} {u:ByteArray} {n:Nat} (h:yM f ts u n) (hne:ts≠[]) {t:T} {s:ByteArray} {m:Nat} (g:o7 f t s m) {u':ByteArray} (hu:u'.data.toList=u.data.toList++(44::s.data.toList)):yM f (ts++[t]) u' (n+m+1):=by
 have hm:∀ x ∈ ts++[t],x ∈ ts\/x=t:=fun x hx=>by simpa using hx
 refine ⟨?_,fun x hx=>(hm x hx).elim (h.fit x) (fun e=>by rw [e];exact g.fit),fun x hx=>(hm x hx).elim (h.good x) (fun e=>by rw [e];exact g.good),fun x hx=>(hm x hx).elim (h.can x) (fun e=>by rw [e];exact g.can),?_⟩
 ·have hl:(ts++[t]).length=ts.length+1:=by simp
  have e:elt (aO 5 0 ByteArray.empty (ts++[t]) []) ts.length=t:=by rw [iQ,List.getD_eq_getElem?_getD];simp
  have h0:¬ ts.length=0:=fun q=>hne (List.eq_nil_of_length_eq_zero q);rw [hu,h.wr,hl,dL,FQ _ _ _ _ (Nat.le_refl _),if_neg h0,e,g.wr];rfl
 ·have h1:u'.size=u'.data.toList.length:=rfl;have h2:u.size=u.data.toList.length:=rfl;have h3:s.size=s.data.toList.length:=rfl;have h4:=h.size;have h5:=g.size;rw [h1,hu];simp only [List.length_cons,List.length_append];omega
theorem XH {f:Nat} {ts:List T} (h:∀ t ∈ ts,bH f t=t):bH (f+1) (aO 5 0 ByteArray.empty ts [])=aO 5 0 ByteArray.empty ts []:=by
 show aO 5 0 ByteArray.empty (ts.map (bH f)) []=_
 have:ts.map (bH f)=ts:=by
  conv=>rhs;rw [<- List.map_id ts]
  exact List.map_congr_left h
 rw [this]
theorem yM.list {f:Nat} {ts:List T} {u:ByteArray} {n:Nat} (h:yM f ts u n) (hl:ts.length<=100) {s':ByteArray} (hs:s'.data.toList=91::(u.data.toList++[93])):o7 (f+1) (aO 5 0 ByteArray.empty ts []) s' (n+2):=by
 have e:bL (f+1) (aO 5 0 ByteArray.empty ts [])=91::(dL (bL f) (aO 5 0 ByteArray.empty ts []) (nL (aO 5 0 ByteArray.empty ts []))++[93]):=rfl
 have hel:∀ i,i<ts.length->elt (aO 5 0 ByteArray.empty ts []) i ∈ ts:=fun i hi=>by
  rw [iQ,List.getD_eq_getElem?_getD,List.getElem?_eq_getElem hi];exact List.getElem_mem hi
 refine ⟨?_,⟨gH (by omega) (by omega) _ _ hl (by simp),fun i hi=>?_,fun i hi=>?_⟩,.inr ⟨rfl,dP _ _ _ _,fun i hi=>?_,.inl ⟨rfl,rfl⟩⟩,XH h.can,?_⟩
 ·rw [e,hs,h.wr,aN]
 ·rw [aN] at hi;exact h.fit _ (hel i hi)
 ·rw [eY] at hi;exact absurd hi (Nat.not_lt_zero i)
 ·rw [aN] at hi;exact h.good _ (hel i hi)
 ·have h1:s'.size=s'.data.toList.length:=rfl;have h2:u.size=u.data.toList.length:=rfl;have h4:=h.size;rw [h1,hs];simp only [List.length_cons,List.length_append,List.length_nil];omega
def o1 (k:ByteArray) (t:T):T:=aO 6 0 ByteArray.empty [t] [k]
def LM:ByteArray:=⟨#[36,115,111,114,116]⟩
def LP:ByteArray:=⟨#[36,115,107,105,112]⟩
def CQ:ByteArray:=⟨#[36,108,105,109,105,116]⟩
def mZ:ByteArray:=⟨#[36,112,114,111,106,101,99,116]⟩
theorem yN:lW LM/\lW LP/\lW CQ/\lW mZ/\lW ⟨#[107]⟩:=⟨lW.mk' (by kernel_rfl),lW.mk' (by kernel_rfl),lW.mk' (by kernel_rfl),lW.mk' (by kernel_rfl),lW.mk' (by kernel_rfl)⟩
theorem XI:((List.range 6).all fun k=>decide (cO (rH k)=34::((rH k).data.toList++[34]))&&Ah (rH k)&&decide ((rH k).size<=100))=true:=by kernel_rfl
theorem Z6 {k:Nat} (h:k<6):lW (rH k):=lW.mk' (List.all_eq_true.1 XI k (List.mem_range.2 h))
theorem Z7:((List.range 6).all fun k=>decide ((rH k).size<=10))=true:=by kernel_rfl
theorem O4 {k:Nat} (h:k<6):(rH k).size<=10:=of_decide_eq_true (List.all_eq_true.1 Z7 k (List.mem_range.2 h))
theorem Z8 {n:Int} (h0:0<=n) (h1:n<30) (f:Nat) {s:ByteArray} (hs:s.data.toList=[123,34,36,115,107,105,112,34,58]++((bP (Lib.itoa n)).data.toList++[125])):o7 (f+2) (o1 LP (nT n)) s 30 :=
 ((qI h0 h1 f).obj yN.2.1 (s':=s) (by rw [hs];simp [LP])).le (by show _+5+5<=_;omega)
theorem Z9 {n:Int} (h0:0<=n) (h1:n<30) (f:Nat) {s:ByteArray} (hs:s.data.toList=[123,34,36,108,105,109,105,116,34,58]++((bP (Lib.itoa n)).data.toList++[125])):o7 (f+2) (o1 CQ (nT n)) s 30 :=
 ((qI h0 h1 f).obj yN.2.2.1 (s':=s) (by rw [hs];simp [CQ])).le (by show _+6+5<=_;omega)
theorem adj:(Tryz.prog.info? 265).map (fun i=>(i.zero,i.size,i.bytes))=some (some .nilIface,1,16):=by kernel_rfl
def ExE (Tb:World->Prop) (wB:World) (w:World) (X:Nat->Prop) (cs:List Value) (g:T->Int⊕T):Prop:=∃ ty q,cs=[.iface ty q]/\gW wB w X (fun x=>dO Tb x (.iface ty q) g)
theorem uz (Tb:World->Prop) (wB:World):u7 (ExE Tb wB):=fun _ _ _ _ _ _ h hb=>by
 obtain ⟨ty,q,h1,h2⟩:=h;exact ⟨ty,q,h1,h2.move hb⟩
theorem sM.off {α:Type} {E:World->(Nat->Prop)->List Value->α->Prop} (hE:u7 E) {s:Nat} {e:TypeId} {base:Nat} {hv:Value} {l:List α} {xs:List Value} {wr w1:World} (h:sM E s e base hv l xs wr) (hs:wr.heap.size<=w1.heap.size) (hb:∀ b,base<=b->b<wr.heap.size->w1.heap[b]?=wr.heap[b]?):sM E s e base hv l xs w1 :=
 ⟨iO h.row hb,fun i hi=>hE _ _ _ _ _ _ (h.el i hi) fun b hX=>⟨hb b hX.1 hX.2.1,hX.1,Nat.lt_of_lt_of_le hX.2.1 hs,hX.2.2⟩⟩
theorem TH {Tb:World->Prop} {wB:World} {base:Nat} {hv:Value} {gs:List (T->Int⊕T)} {xs:List Value} {w wr:World} (h:sM (ExE Tb wB) 1 265 base hv gs xs wr) (hlo:w.heap.size<=base) (hn:gs.length<=1000000):∃ A c,hv=.slice A gs.length c/\gW wB wr (aS w wr) (fun x=>oP Tb x (.slice A gs.length c) gs):=by
 have hrow:=h.row;rcases h.row.2 with ⟨rfl,h0⟩ | ⟨g,cap,cur,rfl,hb0,hgb,_⟩
 ·exact ⟨none,0,by rw [h0],gW.all fun w' _=>⟨none,0,rfl,hn,fun i hi=>by omega⟩⟩
 ·have hgl:=(Array.getElem?_eq_some_iff.1 hgb).1;refine ⟨some ⟨g,0,none⟩,cap,rfl,aS w wr,fun b hb=>⟨hb,hb.2⟩,fun w' hw hy=>⟨_,_,rfl,hn,fun i hi=>?_⟩⟩;obtain ⟨ty,q,hc,hs⟩:=h.el i hi;have c0:=aX hrow (oh (r:=0) (by rw [hc];rfl) (by omega));have hgw:w'.heap[g]?=wr.heap[g]?:=hy g ⟨by omega,hgl⟩;refine ⟨g,0,.iface ty q,rfl,mR hgl hgw,?_,?_⟩
  ·rw [aC hgw,Nat.zero_add];rw [Nat.mul_one,Nat.add_zero] at c0;exact c0
  ·obtain ⟨Y,h1,h2⟩:=hs;exact h2 w' hw fun b hb=>hy b (Lh hlo (h1 b hb).1)
structure Mw (b:Nat) (nl nk o:Value) (w:World):Prop where
 q3:w.cell? ⟨b,3,none⟩=some nl
 q4:w.cell? ⟨b,4,none⟩=some nk
 p0:w.cell? ⟨b+2,0,none⟩=some (.slice none 0 0)
 p1:w.cell? ⟨b+2,1,none⟩=some nk
 p2:w.cell? ⟨b+2,2,none⟩=some o
 pf:w.frozen? ⟨b+2,2,none⟩=false
 r0:w.cell? ⟨b+1,0,none⟩=some (.slice none 0 0)
 r1:w.cell? ⟨b+1,1,none⟩=some (.slice none 0 0)
 r2:w.cell? ⟨b+1,2,none⟩=some (.slice none 0 0)
 f0:w.frozen? ⟨b+1,0,none⟩=false
 f1:w.frozen? ⟨b+1,1,none⟩=false
 f2:w.frozen? ⟨b+1,2,none⟩=false
 lt:b+2<w.heap.size
theorem Mw.blocks {b:Nat} {nl nk o:Value} {w w':World} (h:Mw b nl nk o w) (h0:w'.heap[b]?=w.heap[b]?) (h1:w'.heap[b+1]?=w.heap[b+1]?) (h2:w'.heap[b+2]?=w.heap[b+2]?):Mw b nl nk o w' :=
 ⟨(aC h0 _).trans h.q3,(aC h0 _).trans h.q4,(aC h2 _).trans h.p0,(aC h2 _).trans h.p1,(aC h2 _).trans h.p2,(World.frozen?_of_block (a:=⟨b+2,2,none⟩) h2).trans h.pf,(aC h1 _).trans h.r0,(aC h1 _).trans h.r1,(aC h1 _).trans h.r2,(World.frozen?_of_block (a:=⟨b+1,0,none⟩) h1).trans h.f0,(World.frozen?_of_block (a:=⟨b+1,1,none⟩) h1).trans h.f1,(World.frozen?_of_block (a:=⟨b+1,2,none⟩) h1).trans h.f2,mR h.lt h2⟩
theorem Mw.stay {b:Nat} {nl nk o:Value} {w w':World} (h:Mw b nl nk o w) (hb:Below w.heap.size w w'):Mw b nl nk o w' :=
 h.blocks (hb.block b (by have:=h.lt;omega)) (hb.block (b+1) (by have:=h.lt;omega)) (hb.block (b+2) h.lt)
theorem Mw.set {b:Nat} {nl nk o:Value} {w:World} (h:Mw b nl nk o w) (u:Value):Mw b nl nk u (w.setCell ⟨b+2,2,none⟩ u):=by
 have e0:(w.setCell ⟨b+2,2,none⟩ u).heap[b]?=w.heap[b]?:=Below.heap_setCell _ _ _ _ (by simp);have e1:(w.setCell ⟨b+2,2,none⟩ u).heap[b+1]?=w.heap[b+1]?:=Below.heap_setCell _ _ _ _ (by simp);refine ⟨(aC e0 _).trans h.q3,(aC e0 _).trans h.q4,(aH (.inr (by omega)) u).trans h.p0,(aH (.inr (by omega)) u).trans h.p1,World.cell?_setCell_same w ⟨b+2,2,none⟩ u h.p2,?_,(aC e1 _).trans h.r0,(aC e1 _).trans h.r1,(aC e1 _).trans h.r2,(World.frozen?_of_block (a:=⟨b+1,0,none⟩) e1).trans h.f0,(World.frozen?_of_block (a:=⟨b+1,1,none⟩) e1).trans h.f1,(World.frozen?_of_block (a:=⟨b+1,2,none⟩) e1).trans h.f2,by rw [pW];exact h.lt⟩;have:=h.pf;simpa [go_sem] using this
theorem Mw.grown {b:Nat} {nl nk o:Value} {w w':World} {base:Nat} {e:TypeId} {s n:Nat} {hv:Value} {xs:List Value} (h:Mw b nl nk o w) (hG:w.grownBy w' hv.ownBlock) (hr:w.ownsRow base e s hv n xs) (hb:b+3<=base:=by omega):Mw b nl nk o w':=by
 have hl:=h.lt
 have ne:∀ k,k<base->some k≠hv.ownBlock:=fun k hk e=>by
  have:=(GJ hr e.symm).1;omega
 exact h.blocks (hG.block b (by omega) (ne b (by omega))) (hG.block (b+1) (by omega) (ne (b+1) (by omega))) (hG.block (b+2) hl (ne (b+2) (by omega)))
def O5 (Tb:World->Prop) (wB:World) (gs:List (T->Int⊕T)) (ks:List ByteArray) (w:World) (e:Ending) (w':World):Prop :=
 Below w.heap.size w w'/\∃ NA nc LA lc,e=.returned (.agg #[.slice none 0 0,.slice NA ks.length nc,.slice LA gs.length lc])/\gW wB w' (aS w w') (fun x=>bI x (.slice NA ks.length nc) ks/\oP Tb x (.slice LA gs.length lc) gs)
theorem gW.sets {wB w W:World} {P:World->Prop} {b:Nat} {u0 u1 u2:Value} {wa:World} (h:gW wB W (aS wa W) P) (hb:b<wa.heap.size) (hw:w.heap.size<=wa.heap.size):gW wB (((W.setCell ⟨b,0,none⟩ u0).setCell ⟨b,1,none⟩ u1).setCell ⟨b,2,none⟩ u2) (aS w (((W.setCell ⟨b,0,none⟩ u0).setCell ⟨b,1,none⟩ u1).setCell ⟨b,2,none⟩ u2)) P :=
 h.move fun k hk=>by
  have h1:=hk.1;refine ⟨(Below.heap_setCell _ _ _ _ (by simp;omega)).trans ((Below.heap_setCell _ _ _ _ (by simp;omega)).trans (Below.heap_setCell _ _ _ _ (by simp;omega))),by omega,?_⟩;rw [pW,pW,pW];exact hk.2
theorem FR {Tb:World->Prop} (hL:aV Tb) (t:T) (gs:List (T->Int⊕T)) (k6:aj t=6) (hl:nK t=gs.length) (h0:0<gs.length) (hn:gs.length<=100000) (hgs:∀ i,(hi:i<gs.length)->qz (bO t i)=false/\fV Tb (elt t i) gs[i])
  (v:Value) (wB w:World) (ha:At wB 13 v t) (hk:bM t) (hb0:Below wB.heap.size wB w) (hT:Tb w):Calls Tryz.prog 235 #[v] w (O5 Tb wB gs (jZ t) w):=by
 obtain ⟨iX,hiX,zX0,zX1,zX2⟩:=info_parts adj;obtain ⟨g1,La,Ka,Lc,Kc,hg1,rfl,hfj,hel,hnm⟩:=ha.open;have hnL:nL t=nK t:=(hk.names k6).symm;have BD:=ak hk;have JQ:=ak hel.out;have Y3:=ak hnm.out;have HT:Hid (∀ w':World,Below w.heap.size w w'->Tb w'):=fun w' hb=>hL w hT w w' hT hb;have rJ:=ak hgs;have Hl:=ak hl;have Hhn:=ak hn;have hnk:nK t<=100000:=by omega
 have ain:0<nK t:=by omega
 have aio:(0:Int)<(nK t:Int):=by omega
 have Hg1:=ak hg1;have HNs:Hid (∀ (x:World) (X:Nat->Prop),gW wB x X (fun x=>bI x (.slice Ka (nK t) Kc) (jZ t))):=fun x X=>gW.all fun w' hw=>(kI (Kc:=Kc) hnm.out hfj.m1).keep hw;have HPx:Hid (∀ (j:T) (g:T->Int⊕T) (v:Value) (w':World),fV Tb j g->At wB 13 v j->bM j->Below w.heap.size w w'->Calls Tryz.prog 259 #[v] w' (iY Tb wB g w')):=fun j g v w' h1 h2 h3 h4=>vS hL j g h1 v wB w' h2 h3 (hb0.trans (h4.mono hb0.size)) (HT.out _ h4);have HB1:Hid (Below w.heap.size w (((w.alloc (.cells #[.int .i64 6,.int .i64 (av t),.string (ay t),.slice La (nK t) Lc,.slice Ka (nK t) Kc] 25)).alloc (.cells #[.slice none 0 0,.slice none 0 0,.slice none 0 0] 259)).alloc (.cells #[.slice none 0 0,.slice Ka (nK t) Kc,.slice none 0 0] 259))):=((aY _ _).alloc (by simp) _).alloc (by simp;omega) _
 have MO:Hid (Mw w.heap.size (.slice La (nK t) Lc) (.slice Ka (nK t) Kc) (.slice none 0 0) (((w.alloc (.cells #[.int .i64 6,.int .i64 (av t),.string (ay t),.slice La (nK t) Lc,.slice Ka (nK t) Kc] 25)).alloc (.cells #[.slice none 0 0,.slice none 0 0,.slice none 0 0] 259)).alloc (.cells #[.slice none 0 0,.slice Ka (nK t) Kc,.slice none 0 0] 259))):=by
  show Mw _ _ _ _ _;constructor<;>simp [go_sem]
 rw [k6,hnL];have HW1:Hid ((((w.alloc (.cells #[.int .i64 6,.int .i64 (av t),.string (ay t),.slice La (nK t) Lc,.slice Ka (nK t) Kc] 25)).alloc (.cells #[.slice none 0 0,.slice none 0 0,.slice none 0 0] 259)).alloc (.cells #[.slice none 0 0,.slice Ka (nK t) Kc,.slice none 0 0] 259)).heap.size=w.heap.size+3):=by show _=_;simp
 clear ha hk hel hnm hfj hT hL hgs hl hn hg1;go_in;go_wp2_with fail;refine (dW _).mono ?_;rintro e w2 ⟨rfl,rfl⟩;go_wp2_with fail;generalize ((w.alloc (.cells #[.int .i64 6,.int .i64 (av t),.string (ay t),.slice La (nK t) Lc,.slice Ka (nK t) Kc] 25)).alloc (.cells #[.slice none 0 0,.slice none 0 0,.slice none 0 0] 259)).alloc (.cells #[.slice none 0 0,.slice Ka (nK t) Kc,.slice none 0 0] 259)=W1 at HB1 MO HW1 ⊢;go_loopg [22] (nK t) (fun g i wr=>∃ (k:Nat) (xs:List Value) (o:Value),g=nK t - k/\k<=nK t/\i=.int .i64 k/\Hid (Below w.heap.size w wr)/\Hid (Mw w.heap.size (.slice La (nK t) Lc) (.slice Ka (nK t) Kc) o wr)/\Hid (sM (ExE Tb wB) 1 265 (w.heap.size+3) o (gs.take k) xs wr)/\Hid (w.heap.size+3<=wr.heap.size))
 case atStart=>exact ⟨0,[],_,rfl,Nat.zero_le _,rfl,HB1,MO,sM.nil _ _ _ _ _,(by show _<=_;rw [HW1.out];exact Nat.le_refl _)⟩
 case round =>
  have DY:=ak HW1.out;clear HB1 MO HW1;obtain ⟨k,xs,o,rfl,hk,rfl,HB,HX,HL,HWr⟩:=hrel;have qb:=ak (hb0.trans (HB.out.mono hb0.size));by_cases hlt:k<nK t
  ·have sN:k<nL t:=by omega
   have Cq:k<gs.length:=by have:=Hl.out;omega
   obtain ⟨kb,ko,rfl,hkb,hks,hkc⟩:=Y3.out.keep qb.out k hlt;obtain ⟨bb,oo,A,B,C,D,rfl,hbl,p0,p1,p2,p3,p4,Ha⟩:=JQ.out.shape qb.out k sN;obtain ⟨e2,e3⟩:=rJ.out k Cq;have HO:=ak (iw (bO t k));rw [e2] at HO;obtain ⟨j,hj⟩:∃ j,elt t k=j:=⟨_,rfl⟩;have hkj:=BD.out.elt sN;rw [hj] at p0 p1 p2 p3 p4 Ha hkj e3;have HC:=ak (HPx.out j _ _ wr.drew e3 (Ha.out.up (show g1<=13 by have:=Hg1.out;omega)) hkj HB.out.drew);have IX:Hid (gs.take (k+1)=gs.take k++[gs[k]]):=by show _=_;rw [List.take_add_one,List.getElem?_eq_getElem Cq];rfl
   have hxl:(gs.take k).length=k:=by rw [List.length_take];omega
   generalize gs[k]=gk at HC IX;obtain ⟨OA,oc,ho⟩:=pV HL.out.row;rw [hxl] at ho;subst ho;have hq3:=HX.out.q3;have hq2:=HX.out.p2;have Hxl:=ak hxl;have HRw:Hid (∀ w':World,Below wr.heap.size wr w'->sM (ExE Tb wB) 1 265 (w.heap.size+3) (.slice OA k oc) (gs.take k) xs w'/\Mw w.heap.size (.slice (some ⟨bb,oo,none⟩) (nK t) Lc) (.slice (some ⟨kb,ko,none⟩) (nK t) Kc) (.slice OA k oc) w'):=fun w' hb=>⟨HL.out.keep (uz Tb wB) hb,HX.out.stay hb⟩
   have HRo:Hid (∀ w':World,Below wr.heap.size wr w'->w'.ownsRow (w.heap.size+3) 265 1 (.slice OA k oc) k xs):=fun w' hb=>by
    have:=(HRw.out w' hb).1.row;rw [hxl] at this;exact this
   have Hdr:=ak (au wr);have hlow:=HWr.out;clear e2 e3 hj hkj Ha HL HX;go_wp2_with fail;refine (HO.out _).mono ?_;rintro e wr ⟨rfl,rfl⟩;go_wp2_with fail;refine (dW _).mono ?_;rintro e wr ⟨rfl,rfl⟩;go_wp2_with fail;go_region_law (first | (refine step_append_lies _ (by rfl) _ _ _ (by rfl) (w.heap.size+3) 265 iX _ 1 16 Tryz.underlying257 hiX zX0 zX1 zX2 rfl (by omega) (.slice OA k oc) k xs (by rfl) (HRo.out _ tq.out) ⟨w4.heap.size,0,none⟩ 1 1 [.iface t6 v6] (by rfl) (by rfl) (World.news_of_block (cs:=#[.iface t6 v6]) (t:=265) (fr:=(0,0)) (heap_alloc_new w4 _)) (by simp [Value.oneCell']) (by omega) (by unfold maxLen;omega) (by omega) Xd (w4.heap.size+1) (by simp) ?_;intro g cap w7 nS iU Bu MU;have JG:=ak ((HRw.out _ tq.out).2.grown iU (HRo.out _ tq.out));have hc7:=JG.out.p2;have hf7:=JG.out.pf) | (go_simp;go_wp2_with (go_at_call 259;refine HC.out.mono ?_;rintro e w4 ⟨b4,t6,v6,rfl,ht⟩;have Hb4:=ak (Hdr.out.trans b4);have Ht4:=ak ht;have tq:=ak (Hb4.out.trans (((Below.refl _ _).alloc (Nat.le_refl _) (.cells #[.iface t6 v6] 265)).mono Hb4.out.size));have hc4:=(HRw.out _ Hb4.out).2.p2;have abK:=(HRw.out _ tq.out).2.p2;have Xd:w.heap.size+3<=(w4.alloc (.cells #[.iface t6 v6] 265)).heap.size:=(by have:=Hb4.out.size;simp;omega);clear b4 ht)))
   all_goals
    have uM:=ak (aY w4 (.cells #[.iface t6 v6] 265));have JF:=ak (sM.grow (x:=gk) (cs:=[.iface t6 v6]) (v':=.slice (some ⟨g,0,none⟩) (k+1) cap) (uz Tb wB) (HRw.out wr (Below.refl _ _)).1 tq.out rfl (uz Tb wB _ _ _ _ _ _ ⟨t6,v6,rfl,Ht4.out⟩ (fun b hb=>⟨uM.out.block b hb.2,hb⟩)) (fun b hb=>⟨hb.1,Nat.lt_of_lt_of_le hb.2 uM.out.size⟩) hlow (by rw [Hxl.out];exact nS) iU (Bu.elim (fun h=>.inl h.symm) (fun h=>.inr (by rw [h];simp [Value.ownBlock]))));have oF:=ak (dx (HB.out.trans (tq.out.mono HB.out.size)) (HRo.out _ tq.out) (by omega) (by have:=HB.out.size;omega) iU);rw [<- IX.out] at JF;have HX8:=ak (JG.out.set (.slice (some ⟨g,0,none⟩) (k+1) cap));have QE:=ak (ZA oF.out (b:=w.heap.size+2) (by omega) 2 (.slice (some ⟨g,0,none⟩) (k+1) cap));have HL8:=ak (JF.out.off (uz Tb wB) (w1:=w7.setCell ⟨w.heap.size+2,2,none⟩ (.slice (some ⟨g,0,none⟩) (k+1) cap)) (by rw [pW];exact Nat.le_refl _) (fun b h1 h2=>Below.heap_setCell _ _ _ _ (by simp;omega)));have HW8:Hid (w.heap.size+3<=(w7.setCell ⟨w.heap.size+2,2,none⟩ (.slice (some ⟨g,0,none⟩) (k+1) cap)).heap.size):=by show _<=_;rw [pW];have:=JG.out.lt;omega
    clear nS iU Bu MU hc7 hf7 hc4 abK JG JF oF HC HO p0 p1 p2 p3 p4 hq2 hq3;go_wp2_with fail;go_roundg (nK t - (k+1))
    case rel=>exact ⟨k+1,_,_,rfl,by omega,by go_num,QE,HX8,HL8,HW8⟩
    case measure=>omega
  ·obtain rfl:k=nK t:=by omega
   rw [Hl.out,List.take_length] at HL;obtain ⟨A,c,rfl,hs⟩:=TH (w:=W1) HL.out (by have:=DY.out;omega) (by have:=Hhn.out;omega);have HS:=ak (gW.sets (b:=w.heap.size+1) (u0:=.slice none 0 0) (u1:=.slice Ka (nK t) Kc) (u2:=.slice A gs.length c) (wa:=W1) (w:=w) ((HNs.out wr (aS W1 wr)).and hs) (by have:=DY.out;omega) (by have:=DY.out;omega));have fI:=ak (vU HB.out (b:=w.heap.size+1) (by omega) (.slice none 0 0) (.slice Ka (nK t) Kc) (.slice A gs.length c));have hq0:=HX.out.p0;have hq1:=HX.out.p1;have hq2:=HX.out.p2;have r0:=HX.out.r0;have r1:=HX.out.r1;have r2:=HX.out.r2;have f0:=HX.out.f0;have f1:=HX.out.f1;have f2:=HX.out.f2;clear hs HL;go_wp2_with fail;refine bodyPost_ret (v:=.agg #[.slice none 0 0,.slice Ka (nK t) Kc,.slice A gs.length c]) (by simp [results,Tryz.results235,go_sem, *]) rfl ?_;exact ⟨fI.out,Ka,Kc,A,c,rfl,HS.out⟩
def yO:ByteArray:=⟨#[36,112,114,111,106,101,99,116]⟩
theorem tH {Tb:World->Prop} (hV:bF Tb) (hL:aV Tb) (gs:List (T->Int⊕T)) (ks:List ByteArray) (hkl:ks.length<=1000000) (t j:T) (k6:aj t=6) (k1:nK t=1) (hj:elt t 0=j) (hx:bO t 0=yO) (h:∀ (v:Value) (wB w:World),At wB 13 v j->bM j->Below wB.heap.size wB w->Tb w->Calls Tryz.prog 235 #[v] w (O5 Tb wB gs ks w)):sZ Tb t (DU gs ks):=by
 intro v wB w ha hk hb0 hT;have l1:nL t=1:=by have:=hk.names k6;omega
 have hkj:bM j:=by rw [<- hj];exact hk.elt (by omega)
 have Ha:=ak ha;obtain ⟨g1,La,Ka,Lc,Kc,hg1,rfl,_,_,_⟩:=ha.open;have HB1:Hid (Below w.heap.size w (w.alloc (.cells #[.int .i64 (aj t),.int .i64 (av t),.string (ay t),.slice La (nL t) Lc,.slice Ka (nK t) Kc] 25))):=(Below.refl _ _).alloc (Nat.le_refl _) _;have HC:=ak (mU t j yO hj hx _ wB _ Ha.out hk k6 k1 (hb0.trans (HB1.out.mono hb0.size)));have HE:Hid (∀ (v:Value) (w':World),At wB 13 v j->Below w.heap.size w w'->Calls Tryz.prog 235 #[v] w' (O5 Tb wB gs ks w')):=fun v w' h1 h2=>h v wB w' h1 hkj (hb0.trans (h2.mono hb0.size)) (hL w hT w w' hT h2);clear ha hk hg1 hb0 hT h k6 k1 l1 hkj Ha hj hx;unfold yO at *;go_in;go_wp2_with fail;refine HC.out.mono ?_;rintro e w2 ⟨b2,A,B,C,D,rfl,hat⟩;have fT:Hid (Below w2.heap.size w2 (w2.alloc (.cells #[.int .i64 (aj j),.int .i64 (av j),.string (ay j),.slice A (nL j) B,.slice C (nK j) D] 25))):=(Below.refl _ _).alloc (Nat.le_refl _) _;have HB2:=ak (HB1.out.trans (b2.mono HB1.out.size));have HB3:=ak (HB2.out.trans (fT.out.mono HB2.out.size));have HP:=ak (HE.out _ _ hat HB3.out);have HY:=ak (aR w2 (.int .i64 (aj j)) (.int .i64 (av j)) (.string (ay j)) (.slice A (nL j) B) (.slice C (nK j) D));clear b2 hat HC HE;have y0:=HY.out.q0;have y1:=HY.out.q1;have y2:=HY.out.q2;have y3:=HY.out.q3;have y4:=HY.out.q4;go_wp2_with fail;refine HP.out.mono ?_;rintro e w5 ⟨b5,NA,nc,LA,lc,rfl,hs⟩;have eF:=ak (HB3.out.trans (b5.mono HB3.out.size))
 have HS:=ak ((hs.later (wa:=w) (Below.refl _ _) HB3.out.size).mono (Q:=fun x=>gI Tb x (.iface 259 (.agg #[.slice none 0 0,.slice NA ks.length nc,.slice LA gs.length lc])) (DU gs ks)) fun w' hw hh=>Ol hV hL hh.2 hh.1 hkl);clear b5 hs HP y0 y1 y2 y3 y4;go_wp2_with fail;go_ret;exact ⟨eF.out,_,_,rfl,HS.out⟩
def adk (Tb:World->Prop) (wB:World) (op:ByteArray) (g:T->Int⊕T) (w:World) (e:Ending) (w':World):Prop :=
 Below w.heap.size w w'/\∃ ty p,e=.returned (.agg #[.string op,.iface ty p])/\gW wB w' (aS w w') (fun x=>dO Tb x (.iface ty p) g)
def IB (Tb:World->Prop) (t:T) (op:ByteArray) (g:T->Int⊕T):Prop:=∀ (v:Value) (wB w:World),At wB 13 v t->bM t->Below wB.heap.size wB w->Tb w->Calls Tryz.prog 279 #[v] w (adk Tb wB op g w)
theorem AA (w:World):(w.alloc (.cells #[.string ⟨#[]⟩,.nilIface] 316)).cell? ⟨w.heap.size,0,none⟩=some (.string ⟨#[]⟩)/\(w.alloc (.cells #[.string ⟨#[]⟩,.nilIface] 316)).cell? ⟨w.heap.size,1,none⟩=some .nilIface/\(w.alloc (.cells #[.string ⟨#[]⟩,.nilIface] 316)).frozen? ⟨w.heap.size,0,none⟩=false/\(w.alloc (.cells #[.string ⟨#[]⟩,.nilIface] 316)).frozen? ⟨w.heap.size,1,none⟩=false:=⟨by simp [go_sem],by simp [go_sem],by simp [go_sem],by simp [go_sem]⟩
structure LQ (b:Nat) (w:World):Prop where
 q0:w.cell? ⟨b,0,none⟩=some (.string ⟨#[]⟩)
 q1:w.cell? ⟨b,1,none⟩=some .nilIface
 f0:w.frozen? ⟨b,0,none⟩=false
 f1:w.frozen? ⟨b,1,none⟩=false
 lt:b<w.heap.size
theorem LQ.stay {b:Nat} {w w':World} (h:LQ b w) (hb:Below w.heap.size w w'):LQ b w' :=
 ⟨(hb.cell (p:=⟨b,0,none⟩) h.lt).trans h.q0,(hb.cell (p:=⟨b,1,none⟩) h.lt).trans h.q1,(World.frozen?_of_block (a:=⟨b,0,none⟩) (hb.block b h.lt)).trans h.f0,(World.frozen?_of_block (a:=⟨b,1,none⟩) (hb.block b h.lt)).trans h.f1,Nat.lt_of_lt_of_le h.lt hb.size⟩
theorem LQ.new (w:World):LQ w.heap.size (w.alloc (.cells #[.string ⟨#[]⟩,.nilIface] 316)):=⟨(AA w).1,(AA w).2.1,(AA w).2.2.1,(AA w).2.2.2,by simp⟩
theorem vD {w W:World} (h:Below w.heap.size w W) {b:Nat} (hb:w.heap.size<=b) (o:Nat) (u:Value):Below w.heap.size w (W.setCell ⟨b,o,none⟩ u):=by
 obtain ⟨t1,t2,t3,t4⟩:=gT W ⟨b,o,none⟩ u;exact ⟨t2.trans h.os,t3.trans h.tape,t4.trans h.output,by rw [t1];exact h.size,fun k hk=>(Below.heap_setCell _ _ _ _ (by simp;omega)).trans (h.block k hk)⟩
theorem gW.set {wB w W:World} {P:World->Prop} {b c:Nat} (h:gW wB W (aS w W) P) (hb:b<w.heap.size) (hc:c<=w.heap.size) (o:Nat) (u:Value) {wa:World} (hwa:wa.heap.size=c):gW wB (W.setCell ⟨b,o,none⟩ u) (aS wa (W.setCell ⟨b,o,none⟩ u)) P :=
 h.move fun k hk=>by
  have h1:=hk.1;refine ⟨Below.heap_setCell _ _ _ _ (by simp;omega),by omega,?_⟩;rw [(gT W ⟨b,o,none⟩ u).1];exact hk.2
theorem tL {Tb:World->Prop} (hL:aV Tb) (t j:T) (g:T->Int⊕T) (k6:aj t=6) (k1:nK t=1) (hj:elt t 0=j) {op:ByteArray} (hx:bO t 0=op) (h:fV Tb j g) (ho:jU op):IB Tb t op g:=by
 intro v wB w ha hk hb0 hT;have l1:nL t=1:=by have:=hk.names k6;omega
 have hkj:bM j:=by rw [<- hj];exact hk.elt (by omega)
 have Ha:=ak ha;obtain ⟨g1,La,Ka,Lc,Kc,hg1,rfl,_,_,_⟩:=ha.open;have HB1:Hid (Below w.heap.size w ((w.alloc (.cells #[.int .i64 (aj t),.int .i64 (av t),.string (ay t),.slice La (nL t) Lc,.slice Ka (nK t) Kc] 25)).alloc (.cells #[.string ⟨#[]⟩,.nilIface] 316))):=((Below.refl _ _).alloc (Nat.le_refl _) _).alloc (by simp) _
 have HX:Hid (LQ (w.heap.size+1) ((w.alloc (.cells #[.int .i64 (aj t),.int .i64 (av t),.string (ay t),.slice La (nL t) Lc,.slice Ka (nK t) Kc] 25)).alloc (.cells #[.string ⟨#[]⟩,.nilIface] 316))):=by
  show LQ _ _;have:=LQ.new (w.alloc (.cells #[.int .i64 (aj t),.int .i64 (av t),.string (ay t),.slice La (nL t) Lc,.slice Ka (nK t) Kc] 25));simpa using this
 have HC:=ak (mU t j op hj hx _ wB _ Ha.out hk k6 k1 (hb0.trans (HB1.out.mono hb0.size)));have HE:Hid (∀ (v:Value) (w':World),At wB 13 v j->Below w.heap.size w w'->Calls Tryz.prog 259 #[v] w' (iY Tb wB g w')):=fun v w' h1 h2=>vS hL j g h v wB w' h1 hkj (hb0.trans (h2.mono hb0.size)) (hL w hT w w' hT h2);clear ha hk hg1 hb0 hT h hL k6 k1 l1 hkj Ha hj hx;unfold jU Ir Cz CB oU tF fD at ho;rcases ho with rfl | rfl | rfl | rfl | rfl | rfl
 all_goals
  go_in;go_wp2_with fail;refine HC.out.mono ?_;rintro e w2 ⟨b2,A,B,C,D,rfl,hat⟩;have fT:Hid (Below w2.heap.size w2 (w2.alloc (.cells #[.int .i64 (aj j),.int .i64 (av j),.string (ay j),.slice A (nL j) B,.slice C (nK j) D] 25))):=(Below.refl _ _).alloc (Nat.le_refl _) _;have HB2:=ak (HB1.out.trans (b2.mono HB1.out.size));have HB3:=ak (HB2.out.trans (fT.out.mono HB2.out.size));have eO:=ak ((HX.out.stay b2).stay fT.out);have HP:=ak (HE.out _ _ hat HB3.out);have HY:=ak (aR w2 (.int .i64 (aj j)) (.int .i64 (av j)) (.string (ay j)) (.slice A (nL j) B) (.slice C (nK j) D));have hl2:w.heap.size+1<w2.heap.size:=by have:=b2.size;simp at this;omega
  clear b2 hat HC HE;have y0:=HY.out.q0;have y1:=HY.out.q1;have y2:=HY.out.q2;have y3:=HY.out.q3;have y4:=HY.out.q4;go_wp2_with fail;refine HP.out.mono ?_;rintro e w5 ⟨b5,ty,p,rfl,hs⟩;have eF:=ak (HB3.out.trans (b5.mono HB3.out.size));have jV:=ak (eO.out.stay b5);have Hs:=ak hs;have q0:=jV.out.q0;have q1:=jV.out.q1;have f0:=jV.out.f0;have f1:=jV.out.f1;clear b5 hs HP y0 y1 y2 y3 y4;go_wp2_with fail;refine bodyPost_ret (by simp [results,Tryz.results279,go_sem, *];try rfl) rfl ?_;exact ⟨vD (vD eF.out (b:=w.heap.size+1) (by omega) 0 _) (b:=w.heap.size+1) (by omega) 1 _,ty,p,rfl,(Hs.out.set (b:=w.heap.size+1) (c:=w2.heap.size) (by simp;omega) (by simp) 0 _ (wa:=w2) rfl).set (b:=w.heap.size+1) (c:=w.heap.size) (by omega) (by omega) 1 _ (wa:=w) rfl⟩
theorem adl:(Tryz.prog.info? 316).map (fun i=>(i.zero,i.size,i.bytes))=some (some (.agg #[.string ⟨#[]⟩,.nilIface]),2,32):=by kernel_rfl
def adn (Tb:World->Prop) (wB:World) (w:World) (X:Nat->Prop) (cs:List Value) (p:ByteArray×(T->Int⊕T)):Prop:=∃ ty q,cs=[.string p.1,.iface ty q]/\gW wB w X (fun x=>dO Tb x (.iface ty q) p.2)
theorem qN (Tb:World->Prop) (wB:World):u7 (adn Tb wB):=fun _ _ _ _ _ _ h hb=>by
 obtain ⟨ty,q,h1,h2⟩:=h;exact ⟨ty,q,h1,h2.move hb⟩
theorem TI {base:Nat} {hv:Value} {w wr:World} (hlo:w.heap.size<=base) {b:Nat} (h:Y1 base hv wr b):aS w wr b:=⟨Nat.le_trans hlo h.1,h.2.1⟩
theorem XJ {Tb:World->Prop} {wB:World} {base:Nat} {hv:Value} {es:List (ByteArray×(T->Int⊕T))} {xs:List Value} {w wr:World} (h:sM (adn Tb wB) 2 316 base hv es xs wr) (hlo:w.heap.size<=base) (hn:es.length<=100000) (hg:∀ i,(hi:i<es.length)->jU es[i].1):∃ A c,hv=.slice A es.length c/\gW wB wr (aS w wr) (fun x=>qM Tb x (.slice A es.length c) es):=by
 have hrow:=h.row;rcases h.row.2 with ⟨rfl,h0⟩ | ⟨g,cap,cur,rfl,hb0,hgb,_⟩
 ·exact ⟨none,0,by rw [h0],gW.all fun w' _=>⟨none,0,rfl,hn,fun i hi=>by omega⟩⟩
 ·have hgl:=(Array.getElem?_eq_some_iff.1 hgb).1;refine ⟨some ⟨g,0,none⟩,cap,rfl,aS w wr,fun b hb=>⟨hb,hb.2⟩,fun w' hw hy=>⟨_,_,rfl,hn,fun i hi=>?_⟩⟩;obtain ⟨ty,q,hc,hs⟩:=h.el i hi;have c0:=aX hrow (oh (r:=0) (by rw [hc];rfl) (by omega));have c1:=aX hrow (oh (r:=1) (by rw [hc];rfl) (by omega));have hgw:w'.heap[g]?=wr.heap[g]?:=hy g ⟨by omega,hgl⟩;refine ⟨g,0,.iface ty q,rfl,mR hgl hgw,?_,?_,?_,hg i hi⟩
  ·rw [aC hgw,Nat.zero_add];exact c0
  ·rw [aC hgw,Nat.zero_add];exact c1
  ·obtain ⟨Y,h1,h2⟩:=hs;exact h2 w' hw fun b hb=>hy b (TI hlo (h1 b hb).1)
def XK (Tb:World->Prop) (wB:World) (es:List (ByteArray×(T->Int⊕T))) (w:World) (e:Ending) (w':World):Prop :=
 Below w.heap.size w w'/\∃ A c,e=.returned (.slice A es.length c)/\gW wB w' (aS w w') (fun x=>qM Tb x (.slice A es.length c) es)
def IC:ByteArray:=⟨#[95,105,100]⟩
theorem TJ {Tb:World->Prop} (hL:aV Tb) (t:T) (es:List (ByteArray×(T->Int⊕T))) (k6:aj t=6) (hl:nK t=es.length) (hn:es.length<=100000) (hes:∀ i,(hi:i<es.length)->bO t i≠IC/\qz (bO t i)=false/\IB Tb (elt t i) es[i].1 es[i].2/\jU es[i].1/\es[i].1.size<=100)
  (v:Value) (wB w:World) (ha:At wB 13 v t) (hk:bM t) (hb0:Below wB.heap.size wB w) (hT:Tb w):Calls Tryz.prog 261 #[v] w (XK Tb wB es w):=by
 obtain ⟨iE,hiE,zE0,zE1,zE2⟩:=info_parts adl;obtain ⟨g1,La,Ka,Lc,Kc,hg1,rfl,hfj,hel,hnm⟩:=ha.open;have hnL:nL t=nK t:=(hk.names k6).symm;have BD:=ak hk;have JQ:=ak hel.out;have Y3:=ak hnm.out;have HT:Hid (∀ w':World,Below w.heap.size w w'->Tb w'):=fun w' hb=>hL w hT w w' hT hb;have rJ:=ak hes;have HG:Hid (∀ i,(hi:i<es.length)->jU es[i].1):=fun i hi=>(hes i hi).2.2.2.1;have Hl:=ak hl;have Hhn:=ak hn;have hnk:nK t<=100000:=by omega
 have Hg1:=ak hg1;rw [k6,hnL];clear ha hk hel hnm hfj hT hL hes hl hn hg1;go_in;go_wp2_with fail;refine (dW _).mono ?_;rintro e w2 ⟨rfl,rfl⟩;go_wp2_with fail;go_loopg [3,13] (nK t) (fun g o i wr=>∃ (k:Nat) (xs:List Value),g=nK t - k/\k<=nK t/\i=.int .i64 k/\Hid (Below (w.heap.size+1) (w.alloc (.cells #[.int .i64 6,.int .i64 (av t),.string (ay t),.slice La (nK t) Lc,.slice Ka (nK t) Kc] 25)) wr)/\Hid (sM (adn Tb wB) 2 316 (w.heap.size+1) o (es.take k) xs wr))
 case atStart=>exact ⟨0,[],rfl,Nat.zero_le _,rfl,Below.refl _ _,sM.nil _ _ _ _ _⟩
 case round =>
  obtain ⟨k,xs,rfl,hk,rfl,HB,HL⟩:=hrel;obtain ⟨q0,q1,q2,q3,q4,hz,hbw⟩:=dz HB.out;have qb:=ak (hb0.trans (hbw.mono hb0.size));have iq:=ak hbw;clear hbw;by_cases hlt:k<nK t
  ·have sN:k<nL t:=by omega
   have Cq:k<es.length:=by have:=Hl.out;omega
   obtain ⟨kb,ko,rfl,hkb,hks,hkc⟩:=Y3.out.keep qb.out k hlt;obtain ⟨bb,oo,A,B,C,D,rfl,hbl,p0,p1,p2,p3,p4,Ha⟩:=JQ.out.shape qb.out k sN;obtain ⟨e1,e2,e3,e4,e5⟩:=rJ.out k Cq;have n1:((bO t k).toList==[95,105,100])=false:=aF (b:=IC) e1;have HO:=ak (iw (bO t k));rw [e2] at HO;have HC:=ak (e3 _ wB wr (Ha.out.up (show g1<=13 by have:=Hg1.out;omega)) (BD.out.elt sN) qb.out (HT.out _ iq.out));have IX:Hid (es.take (k+1)=es.take k++[es[k]]):=by show _=_;rw [List.take_add_one,List.getElem?_eq_getElem Cq];rfl
   have hxl:(es.take k).length=k:=by rw [List.length_take];omega
   obtain ⟨ek,hek⟩:∃ ek,es[k]=ek:=⟨_,rfl⟩;rw [hek] at HC IX e5;clear e1 e2 e3 e4 hek;obtain ⟨op,gk⟩:=ek;have hop:op.size<=140737488355328:=by have:op.size<=100:=e5;omega
   dsimp only at HC;clear e5;go_wp2_with fail;refine (HO.out _).mono ?_;rintro e w2 ⟨rfl,rfl⟩;go_wp2_with fail;refine (dW _).mono ?_;rintro e w2 ⟨rfl,rfl⟩;go_wp2_with fail;refine HC.out.mono ?_;rintro e w3 ⟨b3,t6,v6,rfl,ht⟩;have Y4:=ak ht;have Hb3:=ak b3;have bT:=ak (aY w3 (.cells #[.string op,.iface t6 v6] 316));have uI:=ak ((HL.out.keep (qN Tb wB) Hb3.out).keep (qN Tb wB) bT.out);have sK:Hid (Src Tryz.prog 2 266 (.slice (some ⟨w3.heap.size,0,none⟩) 1 1) 1 [.string op,.iface t6 v6] (w3.alloc (.cells #[.string op,.iface t6 v6] 316))):=Src.ofSlice _ Tryz.underlying266 ⟨w3.heap.size,0,none⟩ 1 1 [.string op,.iface t6 v6] (by simp) (World.news_of_block (heap_alloc_new w3 _)) (by simp [Value.oneCell']);have hlo:w.heap.size+1<=(w3.alloc (.cells #[.string op,.iface t6 v6] 316)).heap.size:=by have:=Hb3.out.size;simp;omega
   clear b3 ht HC HO;go_wp2_with (at_builtin;refine aG _ rfl (.tmp 26) (.tmp 33) 266 266 rfl (w.heap.size+1) 316 iE _ 2 32 Tryz.underlying266 hiE zE0 zE1 zE2 rfl u3 (es.take k).length xs rfl uI.out.row (.slice (some ⟨w3.heap.size,0,none⟩) 1 1) 1 [.string op,.iface t6 v6] rfl sK.out (by unfold maxLen;omega) (by omega) hlo ?_;intro v' w6 qX nu dV);have Dl:=ak (HL.out.grow (x:=(op,gk)) (cs:=[.string op,.iface t6 v6]) (qN Tb wB) (Hb3.out.trans (bT.out.mono Hb3.out.size)) rfl (qN Tb wB _ _ _ _ _ _ ⟨t6,v6,rfl,Y4.out⟩ (fun b hb=>⟨bT.out.block b hb.2,hb⟩)) (fun b hb=>⟨hb.1,Nat.lt_of_lt_of_le hb.2 bT.out.size⟩) (by omega) qX nu dV);have iN:=ak (dx ((HB.out.trans (Hb3.out.mono (by omega))).trans (bT.out.mono (by have:=Hb3.out.size;omega))) uI.out.row (Nat.le_refl _) (by omega) nu);rw [<- IX.out] at Dl;clear qX nu dV;go_wp2_with fail;go_roundg (nK t - (k+1))
   case rel=>exact ⟨k+1,_,rfl,by omega,by go_num,iN,Dl⟩
   case measure=>omega
  ·obtain rfl:k=nK t:=by omega
   rw [Hl.out,List.take_length] at HL;obtain ⟨A,c,rfl,hs⟩:=XJ (w:=w) HL.out (by omega) Hhn.out HG.out;have HS:=ak hs;clear hs HL;go_wp2_with fail;go_ret;exact ⟨iq.out,_,_,rfl,HS.out⟩
end Go.Proofs.YtknakfpciccoaaaGreatDoor
